/- Layer 3 (split): tooLong, byLimb, guess and times of any numbers. -/
import Derived.Test.YtndcaajebomkhaaGreatDoorDivX
namespace Go.Proofs.YtndcaajebomkhaaGreatDoor
open Go.RowKit

/-- Two numbers come back, plain, in whatever memory; what was there is as it was. -/
def GivesQR (w : World) (q r : Nat) (e : Ending) (w' : World) : Prop :=
  ∃ p1 m1 c1 p2 m2 c2, e = .returned (.tuple #[.slice p1 m1 c1, .slice p2 m2 c2]) ∧ m1 ≤ c1 ∧ (p1 = none → c1 = 0) ∧ Rd .u64 W64 w'.heap.size w' p1 m1 (digs W64 q) ∧
    m2 ≤ c2 ∧ (p2 = none → c2 = 0) ∧ Rd .u64 W64 w'.heap.size w' p2 m2 (digs W64 r) ∧ Below w.heap.size w w'

/-- .. the second one in a row of its own, which lies behind all that the first one has. -/
def GivesQO (w : World) (q r : Nat) (e : Ending) (w' : World) : Prop :=
  ∃ p1 m1 c1 p2 m2 c2 B, e = .returned (.tuple #[.slice p1 m1 c1, .slice p2 m2 c2]) ∧ m1 ≤ c1 ∧ (p1 = none → c1 = 0) ∧ Rd .u64 W64 B w' p1 m1 (digs W64 q) ∧
    w'.ownsRow B 53 1 (.slice p2 m2 c2) m2 (ints .u64 (digs W64 r)) ∧ w.heap.size ≤ B ∧ B ≤ w'.heap.size ∧ (∀ a, p1 = some a → w.heap.size ≤ a.block) ∧ Below w.heap.size w w'
theorem GivesQO.any {w : World} {q r : Nat} {e : Ending} {w' : World} (h : GivesQO w q r e w') : GivesQR w q r e w' := by
  obtain ⟨p1, m1, c1, p2, m2, c2, B, h1, h2, h3, h4, h5, h6, h7, _, h8⟩ := h
  exact ⟨p1, m1, c1, p2, m2, c2, h1, h2, h3, h4.mono h7, owns_room h5, owns_nil h5, owns_rd h5 (Nat.le_refl _) (fun i _ => digs_word two_le_W64 _ _), h8⟩

/-- A slice of one number, just made. -/
theorem single_rd {W : World} {k : IntKind} {β x : Nat} {T : TypeId} {z : Int} (hx : x < β) (hz : z = (x : Int)) : Rd k β (W.heap.size + 1) (W.alloc (.cells #[.int k z] T)) (some ⟨W.heap.size, 0, none⟩) 1 [x] := by
  subst hz
  refine ⟨rfl, fun i hi => ?_, fun i hi => ?_⟩
  · obtain rfl : i = 0 := by omega
    rw [nth_cons_zero]; exact hx
  · obtain rfl : i = 0 := by omega
    exact ⟨_, _, rfl, by omega, by rw [nth_cons_zero]; simp [go_sem]⟩
theorem val_single (β x : Nat) : val β [x] = x := by simp [val_cons, val_nil]
/-- A callee that may draw, met where draws have gone before. -/
theorem quiet_more2 {P : Program} {f : FuncId} {args : Array Value} {w : World} {a n : Nat} {v : Value}
    (h : Calls P f args (w.drewN (a + n)) fun e w' => e = .returned v ∧ ∃ m, w' = (w.drewN (a + n)).drewN m) : Calls P f args (w.drewN (a + n)) fun e w' => e = .returned v ∧ ∃ m, w' = w.drewN (a + m) :=
  h.mono fun _ _ ⟨he, m, hm⟩ => ⟨he, n + m, by rw [hm, World.drewN_drewN, Nat.add_assoc]⟩
theorem Row.drewN {w : World} {g : Nat} {e : TypeId} {N : Nat} {f : Nat → Value} (h : Row w g e N f) (n : Nat) : Row (w.drewN n) g e N f := h.kept rfl

theorem tooLong_any (p1 p2 : Option Addr) (l1 l2 c1 c2 : Nat) (w : World) (k1 : l1 ≤ 1000000) (k2 : l2 ≤ 1000000) :
    Calls Tryz.prog 51 #[.slice p1 l1 c1, .slice p2 l2 c2] w fun e w' => e = .returned (.bool (decide (1024 < l1 ∨ 1024 < l2))) ∧ w = w' := by
  have hm : ∀ b : Bool, (b = true ↔ (1024 < l1 ∨ 1024 < l2)) → decide (1024 < l1 ∨ 1024 < l2) = b := fun b hb => by
    cases b with
    | true => exact decide_eq_true (hb.1 rfl)
    | false => exact decide_eq_false (fun h => by have := hb.2 h; cases this)
  by_cases h1 : 1024 < l1
  · have h1z : (1024 : Int) < l1 := by omega
    go_enter Tryz.func51, Tryz.ntmps51
    go_wp2
    all_goals go_ret
    all_goals exact ⟨by rw [hm true (by simp [h1])]; simp; omega, rfl⟩
  · by_cases h2 : 1024 < l2
    · go_enter Tryz.func51, Tryz.ntmps51
      go_wp2
      all_goals go_ret
      all_goals exact ⟨by rw [hm true (by simp [h2])]; simp; omega, rfl⟩
    · go_enter Tryz.func51, Tryz.ntmps51
      go_wp2
      all_goals go_ret
      all_goals exact ⟨by rw [hm false (by simp [h1, h2])]; simp; omega, rfl⟩

theorem up_cons {f' : Nat → Value} {k i v : Nat} {qs : List Nat} (hk : k = i + 1) (h : ∀ j, j < qs.length → f' (k + j) = .int .u64 ((nth qs j : Nat) : Int)) :
    ∀ j, j < (v :: qs).length → (fun j => if j = i then Value.int .u64 (v : Int) else f' j) (i + j) = .int .u64 ((nth (v :: qs) j : Nat) : Int) := by
  intro j hj
  cases j with
  | zero => simp [nth_cons_zero]
  | succ j =>
    have h1 : ¬ i + (j + 1) = i := by omega
    simp only [if_neg h1]
    rw [nth_cons_succ, show i + (j + 1) = k + j by omega]
    exact h j (by simpa using hj)
theorem limb_quo {β y z q r Q R D D' : Nat} (hq : q = (r * β + z) / y) (hr : R = (r * β + z) % y) (hD : D = z + β * D') (hD' : D' = Q * y + r) : D = (q + β * Q) * y + R := by
  have h := Nat.div_add_mod (r * β + z) y
  rw [← hq, ← hr] at h
  rw [hD, hD', Nat.mul_add, Nat.add_mul]
  have e1 : β * (Q * y) = β * Q * y := (Nat.mul_assoc _ _ _).symm
  have e2 : β * r = r * β := Nat.mul_comm _ _
  have e3 : y * q = q * y := Nat.mul_comm _ _
  omega
theorem quo_rem_of {D Q y R : Nat} (hy : 0 < y) (h : D = Q * y + R) (hR : R < y) : D / y = Q ∧ D % y = R := by
  have e : D = R + y * Q := by rw [h, Nat.mul_comm]; omega
  exact ⟨by rw [e, Nat.add_mul_div_left _ _ hy, Nat.div_eq_of_lt hR, Nat.zero_add], by rw [e, Nat.add_mul_mod_self_left, Nat.mod_eq_of_lt hR]⟩

set_option maxHeartbeats 1000000 in
theorem byLimb_own {B : Nat} (p : Option Addr) (len cap y : Nat) (zs : List Nat) (w : World) (hl : len ≤ 1000000) (hr : Rd .u64 W64 B w p len zs) (hB : B ≤ w.heap.size) (hy : 0 < y) (hyw : y < W64) :
    Calls Tryz.prog 53 #[.slice p len cap, .int .u64 (y : Int)] w (GivesQO w (val W64 zs / y) (val W64 zs % y)) := by
  go_enter Tryz.func53, Tryz.ntmps53
  go_wp2_with (at_make; refine wpl_make_nums Tryz.numTy64 rfl _ _ rfl _ _ _ _ len rfl rfl (by omega) (by omega) (by omega) (by omega) ?_)
  intro w1 hrow hgrow
  have hb1 : Below w.heap.size w w1 := (Below.refl _ _).grown hgrow (Nat.le_refl _) (fun k hk => by simp at hk)
  have hR1 := (hr.mono hB).below hb1
  obtain ⟨g, hg⟩ : ∃ g, g = w.heap.size := ⟨_, rfl⟩
  rw [← hg] at hrow hR1 ⊢
  have HG := Lib.hid hg
  have hgw := hrow.lt
  have hgs : g ≤ w1.heap.size := by omega
  clear hgrow hg hr
  go_wp2_with fail
  go_loopw [6, 7] (fun c i wr => ∃ (k d : Nat) (qs : List Nat) (f' : Nat → Value), k ≤ len ∧ i = .int .i64 ((k : Int) - 1) ∧ c = .int .u64 d ∧ Hid (d < y) ∧ Hid (qs.length + k = len) ∧ Hid (∀ i, i < qs.length → nth qs i < W64) ∧ Row wr g 53 len f' ∧
      Hid (∀ j, j < qs.length → f' (k + j) = .int .u64 ((nth qs j : Nat) : Int)) ∧ Hid (val W64 (zs.drop k) = val W64 qs * y + d) ∧ w1.grownBy wr (some g)) (fun _ i _ => (intOf i + 1).toNat)
  case atStart => exact ⟨len, 0, [], _, Nat.le_refl _, rfl, rfl, Lib.hid hy, Lib.hid (by simp), Lib.hid (fun i hi => by simp at hi), hrow, Lib.hid (fun i hi => by simp at hi), Lib.hid (by rw [List.drop_of_length_le (by rw [hR1.count]; exact Nat.le_refl _), val_nil]; simp), World.grownBy.refl _ _⟩
  case round =>
    obtain ⟨k, d, qs, f', hk, rfl, rfl, hd, hql, hqw, hr, hu, hv, hgr⟩ := hrel
    by_cases hlt : 0 < k
    · obtain ⟨i, hi⟩ : ∃ i, k = i + 1 := ⟨k - 1, by omega⟩
      subst hi
      have hiz : ((i + 1 : Nat) : Int) - 1 = (i : Int) := by omega
      rw [hiz]
      obtain ⟨b, o, rfl, hb, hcx⟩ := (hR1.grown hgr (Nat.le_refl _) hgs).cell i (by omega)
      have hz := hR1.word i (by omega)
      obtain ⟨z, hez⟩ : ∃ z, z = nth zs i := ⟨_, rfl⟩
      rw [← hez] at hcx hz
      have hlen := hR1.count
      have C := fun w => div64_any d z y hd.out hyw hz w
      obtain ⟨q, hq⟩ : ∃ q, q = (d * W64 + z) / y := ⟨_, rfl⟩
      obtain ⟨r, hrr⟩ : ∃ r, r = (d * W64 + z) % y := ⟨_, rfl⟩
      rw [← hq, ← hrr] at C
      have HC := Lib.hid C
      have H0 : Hid (r < y) := Lib.hid (by rw [hrr]; exact Nat.mod_lt _ hy)
      have H1 : Hid (q < W64) := Lib.hid (by
        rw [hq, Nat.div_lt_iff_lt_mul hy]
        have := long_part (β := W64) (b := y) (a := z) (U := d) hz hd.out
        rw [Nat.mul_comm d, Nat.add_comm, Nat.mul_comm W64 y]; exact this)
      have H2 : Hid (val W64 (zs.drop i) = val W64 (q :: qs) * y + r) := Lib.hid (by
        rw [val_cons]
        exact limb_quo hq hrr (by rw [hez]; exact val_drop_step zs i (by omega)) hv.out)
      have H3 : Hid (∀ j, j < (q :: qs).length → nth (q :: qs) j < W64) := Lib.hid (fun j hj => by
        cases j with
        | zero => rw [nth_cons_zero]; exact H1.out
        | succ j => rw [nth_cons_succ]; exact hqw.out j (by simpa using hj))
      have H4 := Lib.hid (up_cons (v := q) rfl hu.out)
      have H5 : Hid ((q :: qs).length + i = len) := Lib.hid (by have := hql.out; simp; omega)
      clear C hq hrr hez hv hqw hu hql H1 hd hz hlen
      go_wp2_with fail
      refine (HC.out _).mono ?_
      rintro e w2 ⟨rfl, n, hw2⟩
      have hr2 : Row w2 g 53 len f' := by rw [hw2]; exact hr.drewN n
      have hgr2 : w1.grownBy w2 (some g) := by rw [hw2]; exact grown_drewN hgr n
      have hfr := hr2.free i
      have hcl := hr2.cell i (by omega)
      have H6 := hr2.set i (.int .u64 (q : Int))
      have hiz2 : (i : Int) < len := by omega
      clear hw2 hr hgr HC
      go_wp2
      go_roundw
      case rel => exact ⟨i, r, q :: qs, _, by omega, by go_num, rfl, H0, H5, H3, H6, H4, H2, grown_trans hgr2 (grown_set _ _ _ _)⟩
      case measure => simp [intOf] <;> omega
    · obtain rfl : k = 0 := by omega
      have hv0 := hv.out
      rw [List.drop_zero] at hv0
      obtain ⟨hQ, hRm⟩ := quo_rem_of hy hv0 hd.out
      have hQR := Lib.hid (And.intro hQ hRm)
      have hrd : Rd .u64 W64 wr.heap.size wr (some ⟨g, 0, none⟩) len qs := hr.rd 0 len _ hr.lt (by omega) (by have := hql.out; omega) (fun i hi => hqw.out i (by have := hql.out; omega)) (fun i hi => hu.out i (by have := hql.out; omega))
      have hdw : d < W64 := Nat.lt_trans hd.out hyw
      have hbel : Below w.heap.size w wr := hb1.grown hgr hb1.size (fun j hj => by simp at hj; have := HG.out; omega)
      clear hQ hRm hv hv0 hu hqw hql hd hr hgr
      go_wp2_with fail
      refine (plain_own _ len len qs _ (Nat.le_refl _) (by omega) hrd).mono ?_
      rintro e w2 ⟨q1, m1, c1, rfl, hown1, hb2⟩
      have hmc1 := owns_room hown1
      have hqn1 := owns_nil hown1
      have hRq : Rd .u64 W64 w2.heap.size w2 q1 m1 (digs W64 (val W64 qs)) := owns_rd hown1 (Nat.le_refl _) (fun i _ => digs_word two_le_W64 _ _)
      have hnew : ∀ a, q1 = some a → w.heap.size ≤ a.block := fun a ha => by
        obtain ⟨p', cap', e1, _, _, _, e2⟩ := owns_any hown1
        simp only [Value.slice.injEq, true_and] at e1
        obtain ⟨rfl, rfl⟩ := e1
        obtain ⟨g', rfl, h3, _⟩ := e2 a ha
        have := hbel.size
        show w.heap.size ≤ g'
        omega
      clear hown1
      rw [← hQR.out.1] at hRq
      have hal : Below w2.heap.size w2 (w2.alloc (.cells #[.int .u64 (d : Int)] 53)) := (Below.refl _ _).alloc (Nat.le_refl _) _
      have hsz : (w2.alloc (.cells #[.int .u64 (d : Int)] 53)).heap.size = w2.heap.size + 1 := by simp
      have hs1 := single_rd (W := w2) (k := .u64) (β := W64) (T := 53) hdw rfl
      obtain ⟨W, hW⟩ : ∃ W, W = w2.alloc (.cells #[.int .u64 (d : Int)] 53) := ⟨_, rfl⟩
      rw [← hW] at hal hsz hs1
      have HW := Lib.hid hW
      clear hW
      replace hRq := hRq.next hal
      replace hbel := below_next (hbel.trans (hb2.mono hbel.size)) hal
      clear hb2 hrd
      go_wp2_with fail
      rw [← HW.out]
      refine (plain_own _ 1 1 [d] W (Nat.le_refl _) (by omega) hs1).mono ?_
      rintro e w3 ⟨q2, m2, c2, rfl, hown, hb3⟩
      rw [val_single, ← hQR.out.2] at hown
      go_wp2
      go_ret2
      exact ⟨_, _, _, _, _, _, W.heap.size, rfl, hmc1, hqn1, hRq.below hb3, hown, hbel.size, hb3.size, hnew, below_next hbel hb3⟩
theorem byLimb_any {B : Nat} (p : Option Addr) (len cap y : Nat) (zs : List Nat) (w : World) (hl : len ≤ 1000000) (hr : Rd .u64 W64 B w p len zs) (hB : B ≤ w.heap.size) (hy : 0 < y) (hyw : y < W64) :
    Calls Tryz.prog 53 #[.slice p len cap, .int .u64 (y : Int)] w (GivesQR w (val W64 zs / y) (val W64 zs % y)) :=
  (byLimb_own p len cap y zs w hl hr hB hy hyw).mono fun _ _ h => h.any

set_option maxHeartbeats 1000000 in
theorem guess_any {B1 B2 n c1 c2 : Nat} (p1 p2 : Option Addr) (ps bs : List Nat) (w : World) (hn : 1 ≤ n) (hl : n ≤ 1000000) (r1 : Rd .u64 W64 B1 w p1 (n + 1) ps) (r2 : Rd .u64 W64 B2 w p2 n bs)
    (hb : 0 < nth bs (n - 1)) (hlt : val W64 ps < val W64 bs * W64) :
    Calls Tryz.prog 108 #[.slice p1 (n + 1 : Nat) c1, .slice p2 n c2] w fun e w' => ∃ g : Nat, e = .returned (.int .u64 (g : Int)) ∧ val W64 ps / val W64 bs ≤ g ∧ g < W64 ∧ ∃ d, w' = w.drewN d := by
  obtain ⟨b1, o1, rfl, _, hc1⟩ := r1.cell n (by omega)
  have hc2 := (r1.at (n - 1) (by omega)).2
  obtain ⟨b2, o2, rfl, _, hc3⟩ := r2.cell (n - 1) (by omega)
  have hw1 := r1.word n (by omega)
  have hw2 := r1.word (n - 1) (by omega)
  have hw3 := r2.word (n - 1) (by omega)
  have hg := guess_digits (β := W64) (n := n) ps bs hn r1.word hb
  rw [r1.vl, r2.vl] at hg
  have hm := guess_most hlt W64_pos
  obtain ⟨t, ht⟩ : ∃ t, t = nth ps n := ⟨_, rfl⟩
  obtain ⟨l, hl'⟩ : ∃ l, l = nth ps (n - 1) := ⟨_, rfl⟩
  obtain ⟨y, hy⟩ : ∃ y, y = nth bs (n - 1) := ⟨_, rfl⟩
  rw [← ht] at hc1 hw1 hg
  rw [← hl'] at hc2 hw2 hg
  rw [← hy] at hc3 hw3 hg hb
  have HG := Lib.hid hg
  have HM := Lib.hid hm
  have hnz : ((n : Int) - 1).toNat = n - 1 := by omega
  have hnz2 : 0 ≤ (n : Int) - 1 := by omega
  have hnz3 : (n : Int) - 1 < n := by omega
  clear hg hm ht hl' hy hlt r1 r2
  by_cases hge : y ≤ t
  · go_enter Tryz.func108, Tryz.ntmps108
    go_wp2_with fail
    go_quiet (fail)
    go_wp2
    go_ret
    exact ⟨W64 - 1, by unfold W64; rfl, HM.out, by unfold W64; omega, ⟨_, rfl⟩⟩
  · have C := fun w => div64_any t l y (by omega) hw3 hw2 w
    have hlt : (t * W64 + l) / y < W64 := by
      rw [Nat.div_lt_iff_lt_mul hb]
      have := long_part (β := W64) (b := y) (a := l) (U := t) hw2 (by omega)
      rw [Nat.mul_comm t, Nat.add_comm, Nat.mul_comm W64 y]; exact this
    obtain ⟨q, hq⟩ : ∃ q, q = (t * W64 + l) / y := ⟨_, rfl⟩
    obtain ⟨r, hr⟩ : ∃ r, r = (t * W64 + l) % y := ⟨_, rfl⟩
    rw [← hq] at hlt
    rw [← hq, ← hr] at C
    have HC := Lib.hid C
    have HQ := Lib.hid hq
    clear C hq hr
    go_enter Tryz.func108, Tryz.ntmps108
    go_wp2_with fail
    go_quiet (fail)
    go_wp2_with fail
    go_quiet ((go_at_call 84; exact quiet_more2 (HC.out _)))
    go_wp2
    go_ret
    exact ⟨q, rfl, by rw [HQ.out]; exact HG.out, hlt, by first | exact ⟨_, rfl⟩ | (simp only [World.drewN_drewN]; exact ⟨_, rfl⟩)⟩

theorem times_limb {β x y c h l s o C D V : Nat} (hl : l = x * y % β) (hh : h = x * y / β) (hs : s = (l + c) % β) (ho : o = (l + c) / β) (hv : V + c * C = D * y) : (V + s * C) + (h + o) * (C * β) = (D + x * C) * y := by
  have e1 := Nat.div_add_mod (x * y) β
  have e2 := Nat.div_add_mod (l + c) β
  rw [← hl, ← hh] at e1
  rw [← hs, ← ho] at e2
  have e3 : (β * h + l) * C = x * y * C := by rw [e1]
  have e4 : (β * o + s) * C = (l + c) * C := by rw [e2]
  rw [Nat.add_mul] at e3 e4
  rw [Nat.add_mul] at e4
  have e5 : (h + o) * (C * β) = β * h * C + β * o * C := by rw [Nat.add_mul, Nat.mul_comm C β, ← Nat.mul_assoc, ← Nat.mul_assoc, Nat.mul_comm h β, Nat.mul_comm o β]
  have e6 : (D + x * C) * y = D * y + x * y * C := by rw [Nat.add_mul, Nat.mul_right_comm]
  rw [e5, e6]
  omega
theorem times_carry {β x y c : Nat} (hx : x < β) (hy : y < β) (hc : c < β) : x * y / β + (x * y % β + c) / β < β := by
  have h1 : x * y + c < β * β := by
    have h2 : (x + 1) * (y + 1) ≤ β * β := Nat.mul_le_mul hx hy
    rw [Nat.add_mul, Nat.mul_add, Nat.mul_one, Nat.one_mul] at h2
    have h3 : x * (y + 1) = x * y + x := Nat.mul_succ x y
    by_cases h : x = 0
    · subst h
      have : β * 1 ≤ β * β := Nat.mul_le_mul_left _ (by omega)
      simp; omega
    · by_cases hy0 : y = 0
      · subst hy0
        have : β * 1 ≤ β * β := Nat.mul_le_mul_left _ (by omega)
        simp; omega
      · obtain ⟨a, rfl⟩ : ∃ a, β = a + 1 := ⟨β - 1, by omega⟩
        have h4 : x * y ≤ a * a := Nat.mul_le_mul (by omega) (by omega)
        have h5 : (a + 1) * (a + 1) = a * a + a + a + 1 := by rw [Nat.add_mul, Nat.mul_add]; omega
        omega
  have e : x * y / β + (x * y % β + c) / β = (x * y + c) / β := by
    have := Nat.div_add_mod (x * y) β
    have h2 : x * y + c = (x * y % β + c) + β * (x * y / β) := by omega
    rw [h2, Nat.add_mul_div_left _ _ (by omega)]
    omega
  rw [e, Nat.div_lt_iff_lt_mul (by omega)]
  exact h1

set_option maxHeartbeats 1000000 in
theorem times_any {B n c1 : Nat} (p : Option Addr) (bs : List Nat) (y : Nat) (w : World) (hl : n ≤ 1000000) (r1 : Rd .u64 W64 B w p n bs) (hB : B ≤ w.heap.size) (hy : y < W64) :
    Calls Tryz.prog 109 #[.slice p n c1, .int .u64 (y : Int)] w fun e w' => ∃ q m c zs, e = .returned (.slice q m c) ∧ m ≤ c ∧ m = n + 1 ∧ Rd .u64 W64 w'.heap.size w' q m zs ∧ val W64 zs = val W64 bs * y ∧ Below w.heap.size w w' := by
  go_enter Tryz.func109, Tryz.ntmps109
  go_wp2_with (at_make; refine wpl_make_nums Tryz.numTy64 rfl _ _ rfl _ _ _ _ (n + 1) rfl rfl (by omega) (by omega) (by omega) (by omega) ?_)
  intro w1 hrow hgrow
  have hb1 : Below w.heap.size w w1 := (Below.refl _ _).grown hgrow (Nat.le_refl _) (fun k hk => by simp at hk)
  have hR1 := (r1.mono hB).below hb1
  obtain ⟨g, hg⟩ : ∃ g, g = w.heap.size := ⟨_, rfl⟩
  rw [← hg] at hrow hR1 ⊢
  have HG := Lib.hid hg
  have hgw := hrow.lt
  have hgs : g ≤ w1.heap.size := by omega
  clear hgrow hg r1
  go_wp2_with fail
  go_loopw [6, 17] (fun c i wr => ∃ (k d : Nat) (zs : List Nat) (f' : Nat → Value), k ≤ n ∧ i = .int .i64 (k : Int) ∧ c = .int .u64 d ∧ Hid (d < W64) ∧ Hid (zs.length = k) ∧ Hid (∀ i, i < k → nth zs i < W64) ∧ Row wr g 53 (n + 1) f' ∧
      Part .u64 (fun _ => .int .u64 0) f' 0 zs ∧ Hid (vl W64 zs k + d * W64 ^ k = vl W64 bs k * y) ∧ w1.grownBy wr (some g)) (fun _ i _ => n - (intOf i).toNat)
  case atStart => exact ⟨0, 0, [], _, Nat.zero_le _, rfl, rfl, Lib.hid W64_pos, Lib.hid rfl, Lib.hid (fun i hi => by omega), hrow, Part.none _ _ _, Lib.hid (by simp [vl]), World.grownBy.refl _ _⟩
  case round =>
    obtain ⟨k, d, zs, f', hk, rfl, rfl, hd, hzl, hzw, hr, hp, hv, hgr⟩ := hrel
    by_cases hlt : k < n
    · have hltz : (k : Int) < n := by omega
      obtain ⟨b, o, rfl, hb, hcx⟩ := (hR1.grown hgr (Nat.le_refl _) hgs).cell k hlt
      have hx := hR1.word k hlt
      obtain ⟨x, hex⟩ : ∃ x, x = nth bs k := ⟨_, rfl⟩
      rw [← hex] at hcx hx
      have hfr := hr.free k
      have hcl := hr.cell k (by omega)
      have M := bits_Mul64 x y hx hy wr
      obtain ⟨h, hh⟩ : ∃ h, h = x * y / W64 := ⟨_, rfl⟩
      obtain ⟨l, hl2⟩ : ∃ l, l = x * y % W64 := ⟨_, rfl⟩
      replace M : Calls Tryz.prog 96 #[.int .u64 (x : Int), .int .u64 (y : Int)] wr fun e w' => e = .returned (.tuple #[.int .u64 (h : Int), .int .u64 (l : Int)]) ∧ wr = w' := M.mono fun e w' ⟨a, b⟩ => ⟨by rw [a, hh, hl2]; rfl, b.symm⟩
      have HM := Lib.hid M
      obtain ⟨s, hs⟩ : ∃ s, s = (l + d) % W64 := ⟨_, rfl⟩
      obtain ⟨o', ho⟩ : ∃ o', o' = (l + d) / W64 := ⟨_, rfl⟩
      have A := add64_0 l d
      rw [← hs, ← ho] at A
      have HA := Lib.hid A
      have hcar : h + o' < W64 := by rw [hh, ho, hl2]; exact times_carry hx hy hd.out
      have hcar2 : (h : Int) + o' < 18446744073709551616 := by have : h + o' < 18446744073709551616 := hcar; omega
      have H1 : Hid (nth (zs ++ [s]) k = s) := Lib.hid (nth_snoc _ _ _ hzl.out.symm)
      have H2 : Hid (vl W64 (zs ++ [s]) (k + 1) + (h + o') * W64 ^ (k + 1) = vl W64 bs (k + 1) * y) := Lib.hid (by
        rw [vl_succ, vl_succ, H1.out, ← hex, vl_congr (xs := zs ++ [s]) (ys := zs) (fun i hi => nth_append_lt _ _ _ (by rw [hzl.out]; exact hi)), Nat.pow_succ]
        exact times_limb hl2 hh hs ho hv.out)
      have H3 : Hid (∀ i, i < k + 1 → nth (zs ++ [s]) i < W64) := Lib.hid (fun i hi => by
        by_cases hik : i = k
        · rw [hik, H1.out, hs]; exact Nat.mod_lt _ W64_pos
        · rw [nth_append_lt _ _ _ (by rw [hzl.out]; omega)]; exact hzw.out i (by omega))
      have H4 := hp.snoc s k hzl.out
      have H5 : Hid ((zs ++ [s]).length = k + 1) := Lib.hid (by simp [hzl.out])
      have H6 := hr.set k (.int .u64 (s : Int))
      have HC := Lib.hid hcar
      rw [Nat.zero_add] at H4
      clear A M hs ho hh hl2 hex hv hzw hzl H1 hx hd hp hr hcar
      go_wp2_with (first | (go_at_call 96; refine (HM.out).mono ?_; rintro e w' ⟨rfl, rfl⟩) | simp only [HA.out])
      go_roundw
      case rel => exact ⟨k + 1, h + o', zs ++ [s], _, by omega, by go_num, by go_num, HC, H5, H3, H6, H4, H2, grown_trans hgr (grown_set _ _ _ _)⟩
      case measure => simp [intOf]; omega
    · obtain rfl : k = n := by omega
      have hfr := hr.free k
      have hcl := hr.cell k (by omega)
      have H6 := hr.set k (.int .u64 (d : Int))
      have H4 := hp.snoc d k hzl.out
      rw [Nat.zero_add] at H4
      have hlen : (zs ++ [d]).length = k + 1 := by rw [List.length_append, hzl.out]; rfl
      have hrd : Rd .u64 W64 _ _ (some ⟨g, 0, none⟩) (k + 1) (zs ++ [d]) := H6.rd 0 (k + 1) _ H6.lt (by omega) hlen (fun i hi => by
          by_cases h : i < k
          · rw [nth_append_lt _ _ _ (by rw [hzl.out]; exact h)]; exact hzw.out _ h
          · rw [nth_snoc _ _ _ (by rw [hzl.out]; omega)]; exact hd.out) (fun i hi => H4.new i (by rw [hlen]; exact hi))
      have hval : Hid (val W64 (zs ++ [d]) = val W64 bs * y) := Lib.hid (by
        rw [val_append, val_single, hzl.out, Nat.mul_comm (W64 ^ k), ← hR1.vl]
        have := hv.out
        rw [← this]
        congr 1
        unfold val; rw [hzl.out])
      have hbel := hb1.grown (grown_trans hgr (grown_set _ g k (.int .u64 (d : Int)))) hb1.size (fun j hj => by simp at hj; have := HG.out; omega)
      clear hv hzw hzl hp hr H4 H6 hlen hd
      go_wp2
      go_ret
      exact ⟨_, _, _, _, rfl, Nat.le_refl _, rfl, hrd, hval.out, hbel⟩
end Go.Proofs.YtndcaajebomkhaaGreatDoor
