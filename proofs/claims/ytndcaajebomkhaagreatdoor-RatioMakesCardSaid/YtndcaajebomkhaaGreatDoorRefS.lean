/- The document's own answers for layer 3: bit, Quo and Gcd of any digits. -/
import Derived.Test.YtndcaajebomkhaaGreatDoorRefD
import Derived.Test.YtndcaajebomkhaaGreatDoorSplitC
import Derived.Deep.LoopGhost
namespace Go.Proofs.YtndcaajebomkhaaGreatDoor
open Go.RowKit

/-! Plain mathematics: a number's bit, by its digit. -/
theorem bit_digit {β x r : Nat} (zs : List Nat) (j : Nat) (hw : ∀ i, i < zs.length → nth zs i < β) (hb : 0 < β) (hj : j < zs.length) (hx : x = val β zs) (hβ : ∃ m, β = 2 ^ r * (2 * m)) :
    x / β ^ j / 2 ^ r % 2 = nth zs j / 2 ^ r % 2 := by
  obtain ⟨m, hm⟩ := hβ
  rw [hx, val_div zs j (fun i hi => hw i (by omega)) hb, val_drop_step zs j hj]
  generalize val β (zs.drop (j + 1)) = t
  have e : β * t = 2 ^ r * (2 * (m * t)) := by rw [hm, Nat.mul_assoc, Nat.mul_assoc]
  rw [e, Nat.add_mul_div_left _ _ (Nat.pow_pos (by omega))]
  omega
theorem two16 (s : Nat) (h : s < 16) : 65536 = 2 ^ s * (2 * 2 ^ (15 - s)) := by
  have e : 2 ^ s * (2 * 2 ^ (15 - s)) = 2 ^ (s + (1 + (15 - s))) := by rw [Nat.pow_add, Nat.pow_add, Nat.pow_one]
  rw [e, show s + (1 + (15 - s)) = 16 by omega]
theorem bit_at {x : Nat} (zs : List Nat) (k : Nat) (hw : ∀ i, i < zs.length → nth zs i < 65536) (hk : k / 16 < zs.length) (hx : x = val 65536 zs) :
    x / 2 ^ k % 2 = nth zs (k / 16) / 2 ^ (k % 16) % 2 := by
  rw [← bit_digit (β := 65536) zs (k / 16) hw (by omega) hk hx (r := k % 16) ⟨2 ^ (15 - k % 16), two16 _ (Nat.mod_lt _ (by omega))⟩]
  rw [Nat.div_div_eq_div_mul, show (65536 : Nat) = 2 ^ 16 by decide, ← Nat.pow_mul, ← Nat.pow_add, show 16 * (k / 16) + k % 16 = k by omega]
/-- One more bit. -/
theorem bit_next (x k : Nat) : x / 2 ^ k = 2 * (x / 2 ^ (k + 1)) + x / 2 ^ k % 2 := by
  rw [Nat.pow_succ, ← Nat.div_div_eq_div_mul]; omega
theorem bit_quo {X X' q r b y : Nat} (hy : 0 < y) (hX : X' = 2 * X + b) (hq : q = X / y) (hr : r = X % y) (hb : b ≤ 1) :
    (r + r + b < y → X' / y = q + q ∧ X' % y = r + r + b) ∧ (y ≤ r + r + b → X' / y = q + q + 1 ∧ X' % y = r + r + b - y) := by
  have h := Nat.div_add_mod X y
  have hlt := Nat.mod_lt X hy
  rw [← hq, ← hr] at h
  rw [← hr] at hlt
  have h2 : y * (q + q) = y * q + y * q := Nat.mul_add _ _ _
  refine ⟨fun hl => ?_, fun hg => ?_⟩
  · exact quo_rem_of hy (by rw [Nat.mul_comm]; omega) hl
  · refine quo_rem_of hy ?_ (by omega)
    rw [Nat.mul_comm, Nat.mul_add y, Nat.mul_one]; omega

set_option maxHeartbeats 1000000 in
theorem refBit_any {B : Nat} (p : Option Addr) (len cap k : Nat) (zs : List Nat) (w : World) (hl : len ≤ 1000000) (hr : Rd .u32 65536 B w p len zs) (hk : k / 16 < len) :
    Calls Tryz.prog 78 #[.slice p len cap, .int .i64 (k : Int)] w fun e w' => e = .returned (.int .u32 ((val 65536 zs / 2 ^ k % 2 : Nat) : Int)) ∧ w = w' := by
  have hb := bit_at zs k (fun i hi => hr.word i (by rw [hr.count] at hi; exact hi)) (by rw [hr.count]; exact hk) rfl
  obtain ⟨j, hj⟩ : ∃ j, j = k / 16 := ⟨_, rfl⟩
  obtain ⟨s, hs⟩ : ∃ s, s = k % 16 := ⟨_, rfl⟩
  rw [← hj] at hb hk
  rw [← hs] at hb
  have hs16 : s < 16 := by omega
  have ejz : (k : Int) / 16 = (j : Int) := by omega
  have esz : (k : Int) % 16 = (s : Int) := by omega
  obtain ⟨b, o, rfl, _, hc⟩ := hr.cell j hk
  have hz := hr.word j hk
  obtain ⟨z, hzz⟩ : ∃ z, z = nth zs j := ⟨_, rfl⟩
  rw [← hzz] at hc hz hb
  rw [hb]
  have hkz : (j : Int) < len := by omega
  clear hb hzz hj hs hr
  go_enter Tryz.func78, Tryz.ntmps78
  go_wp2_with fail
  go_loopw [5, 6] (fun x i wr => ∃ (m u : Nat), m ≤ s ∧ i = .int .i64 (m : Int) ∧ x = .int .u32 (u : Int) ∧ Hid (u = z / 2 ^ m) ∧ u < 65536 ∧ w = wr) (fun _ i _ => s - (intOf i).toNat)
  case atStart => exact ⟨0, z, Nat.zero_le _, rfl, rfl, Lib.hid (by simp), hz, rfl⟩
  case round =>
    obtain ⟨m, u, hm, rfl, rfl, hu, hu2, rfl⟩ := hrel
    by_cases hlt : m < s
    · have hltz : (m : Int) < s := by omega
      obtain ⟨v, hv⟩ : ∃ v, v = u / 2 := ⟨_, rfl⟩
      have ev : (u : Int) / 2 = (v : Int) := by omega
      have hv2 : v < 65536 := by omega
      have H1 : Hid (v = z / 2 ^ (m + 1)) := Lib.hid (by rw [hv, hu.out, Nat.pow_succ, Nat.div_div_eq_div_mul])
      clear hv hu
      go_wp2
      go_roundw
      case rel => exact ⟨m + 1, v, by omega, by go_num, by go_num, H1, hv2, by first | rfl | trivial⟩
      case measure => simp [intOf]; omega
    · obtain rfl : m = s := by omega
      obtain ⟨v, hv⟩ : ∃ v, v = u % 2 := ⟨_, rfl⟩
      have ev : (u : Int) % 2 = (v : Int) := by omega
      have H1 : Hid (v = z / 2 ^ m % 2) := Lib.hid (by rw [hv, hu.out])
      clear hv hu
      go_wp2
      go_ret
      refine ⟨?_, rfl⟩
      show Ending.returned (.int .u32 ((u : Int) % 2)) = _
      rw [ev, H1.out]

/-- Two numbers of digits come back. -/
def GivesRR (w : World) (q r : Nat) (e : Ending) (w' : World) : Prop :=
  ∃ p1 m1 c1 p2 m2 c2, e = .returned (.tuple #[.slice p1 m1 c1, .slice p2 m2 c2]) ∧ m1 ≤ c1 ∧ (p1 = none → c1 = 0) ∧ Rd .u32 65536 w'.heap.size w' p1 m1 (digs 65536 q) ∧
    m2 ≤ c2 ∧ (p2 = none → c2 = 0) ∧ Rd .u32 65536 w'.heap.size w' p2 m2 (digs 65536 r) ∧ Below w.heap.size w w'

set_option maxRecDepth 100000 in
set_option maxHeartbeats 4000000 in
theorem refQuo_any {B1 B2 : Nat} (p1 p2 : Option Addr) (l1 l2 c1 c2 : Nat) (xs ys : List Nat) (w : World) (h1 : l1 ≤ c1) (h2 : l2 ≤ c2) (k1 : l1 ≤ 10000) (k2 : l2 ≤ 10000)
    (r1 : Rd .u32 65536 B1 w p1 l1 xs) (r2 : Rd .u32 65536 B2 w p2 l2 ys) (hB1 : B1 ≤ w.heap.size) (hB2 : B2 ≤ w.heap.size) (hy : 0 < val 65536 ys) :
    Calls Tryz.prog 46 #[.slice p1 l1 c1, .slice p2 l2 c2] w (GivesRR w (val 65536 xs / val 65536 ys) (val 65536 xs % val 65536 ys)) := by
  have two : 2 ≤ 65536 := by omega
  replace r1 := r1.mono hB1
  replace r2 := r2.mono hB2
  obtain ⟨x, hx⟩ : ∃ x, x = val 65536 xs := ⟨_, rfl⟩
  obtain ⟨y, hy'⟩ : ∃ y, y = val 65536 ys := ⟨_, rfl⟩
  rw [← hx, ← hy']
  rw [← hy'] at hy
  have bx : Hid (x < 65536 ^ l1) := Lib.hid (by rw [hx]; exact r1.val_lt (by omega) (Nat.le_refl _))
  have bY : Hid (y < 65536 ^ l2) := Lib.hid (by rw [hy']; exact r2.val_lt (by omega) (Nat.le_refl _))
  have HX := Lib.hid hx
  have HY := Lib.hid hy'
  have hL := refLen_any p1 l1 c1 xs w h1 (by omega) r1
  rw [← hx] at hL
  obtain ⟨n, hn⟩ : ∃ n, n = nbits x := ⟨_, rfl⟩
  rw [← hn] at hL
  have hnl : n ≤ 16 * l1 := by
    rw [hn]; refine (nbits_le x (16 * l1)).2 ?_
    have := bx.out
    rwa [show (65536 : Nat) = 2 ^ 16 by decide, ← Nat.pow_mul] at this
  have hn0 : Hid (x / 2 ^ n = 0) := Lib.hid (Nat.div_eq_of_lt ((nbits_le x n).1 (by omega)))
  have HL := Lib.hid hL
  clear hL hn hx hy' hB1 hB2
  go_enter Tryz.func46, Tryz.ntmps46
  go_wp2_with (go_at_call 77; refine (HL.out).mono ?_; rintro e w' ⟨rfl, rfl⟩)
  go_loopw [6, 7, 8] (fun s6 s7 s8 wr => ∃ (k : Nat) (pq pr : Option Addr) (mq cq mr cr q r : Nat), k ≤ n ∧ s8 = .int .i64 ((k : Int) - 1) ∧ s6 = .slice pq mq cq ∧ s7 = .slice pr mr cr ∧ mq ≤ cq ∧ mr ≤ cr ∧ (pq = none → cq = 0) ∧ (pr = none → cr = 0) ∧
      Rd .u32 65536 wr.heap.size wr pq mq (digs 65536 q) ∧ Rd .u32 65536 wr.heap.size wr pr mr (digs 65536 r) ∧ Hid (q = x / 2 ^ k / y) ∧ Hid (r = x / 2 ^ k % y) ∧ Below w.heap.size w wr) (fun _ _ i _ => (intOf i + 1).toNat)
  case atStart => exact ⟨n, none, none, 0, 0, 0, 0, 0, 0, Nat.le_refl _, rfl, rfl, rfl, Nat.le_refl _, Nat.le_refl _, fun _ => rfl, fun _ => rfl, by rw [digs_zero]; exact Rd.nil _ _ _ _ _, by rw [digs_zero]; exact Rd.nil _ _ _ _ _,
      Lib.hid (by rw [hn0.out, Nat.zero_div]), Lib.hid (by rw [hn0.out, Nat.zero_mod]), Below.refl _ _⟩
  case round =>
    obtain ⟨k, pq, pr, mq, cq, mr, cr, q, r, hk, rfl, rfl, rfl, hmq, hmr, hnq, hnr, hRq, hRr, hq, hr, hW⟩ := hrel
    by_cases hlt : 0 < k
    · obtain ⟨i, hi⟩ : ∃ i, k = i + 1 := ⟨k - 1, by omega⟩
      subst hi
      have hiz : ((i + 1 : Nat) : Int) - 1 = (i : Int) := by omega
      rw [hiz]
      have hqx : q ≤ x := by rw [hq.out]; exact Nat.le_trans (Nat.div_le_self _ _) (Nat.div_le_self _ _)
      have hry : r < y := by rw [hr.out]; exact Nat.mod_lt _ hy
      have uq : mq ≤ l1 := hRq.short two (Nat.lt_of_le_of_lt hqx bx.out)
      have ur : mr ≤ l2 := hRr.short two (Nat.lt_trans hry bY.out)
      have hbt : i / 16 < l1 := by omega
      obtain ⟨bt, hbtd⟩ : ∃ bt, bt = x / 2 ^ i % 2 := ⟨_, rfl⟩
      have hbt1 : bt ≤ 1 := by omega
      have hBQ := bit_quo hy (bit_next x i) hq.out hr.out (show x / 2 ^ i % 2 ≤ 1 by omega)
      rw [← hbtd] at hBQ
      have HBQ := Lib.hid hBQ
      have s1 := r1.next hW
      have s2 := r2.next hW
      clear hBQ hq hr hqx HL
      go_wp2_with fail
      refine (refAdd_any pr pr mr mr cr cr _ _ wr (by omega) (by omega) hRr hRr (Nat.le_refl _) (Nat.le_refl _)).mono ?_
      rw [val_digs two]
      rintro e w2 ⟨p3, m3, c3, rfl, hm3, hn3, hR3, hb⟩
      have u3 : m3 ≤ l2 + 1 := hR3.short two (by have := bY.out; rw [Nat.pow_succ]; omega)
      replace s1 := s1.next hb
      replace s2 := s2.next hb
      replace hRq := hRq.next hb
      replace hW := below_next hW hb
      clear hb hRr
      have hBit := refBit_any p1 l1 c1 i xs w2 (by omega) s1 hbt
      rw [← HX.out, ← hbtd] at hBit
      have HBit := Lib.hid hBit
      clear hBit hbtd
      go_wp2_with (go_at_call 78; refine (HBit.out).mono ?_; rintro e w' ⟨rfl, rfl⟩)
      have hal : Below w2.heap.size w2 (w2.alloc (.cells #[.int .u32 (bt : Int)] 75)) := (Below.refl _ _).alloc (Nat.le_refl _) _
      have hs1 := single_rd (W := w2) (k := .u32) (β := 65536) (T := 75) (x := bt) (z := (bt : Int)) (by omega) rfl
      obtain ⟨W3, hW3⟩ : ∃ W3, W3 = w2.alloc (.cells #[.int .u32 (bt : Int)] 75) := ⟨_, rfl⟩
      have hsz3 : W3.heap.size = w2.heap.size + 1 := by rw [hW3]; simp
      rw [← hW3] at hal hs1 ⊢
      rw [← hsz3] at hs1
      clear hW3 HBit
      refine (refAdd_any p3 _ m3 1 c3 1 _ _ W3 (by omega) (by omega) (hR3.next hal) hs1 (Nat.le_refl _) (Nat.le_refl _)).mono ?_
      rw [val_digs two, val_single]
      rintro e w4 ⟨p4, m4, c4, rfl, hm4, hn4, hR4, hb⟩
      have hb' := hal.trans (hb.mono (by omega))
      have u4 : m4 ≤ l2 + 1 := hR4.short two (by have := bY.out; rw [Nat.pow_succ]; omega)
      replace s1 := s1.next hb'
      replace s2 := s2.next hb'
      replace hRq := hRq.next hb'
      replace hW := below_next hW hb'
      clear hb hb' hal hs1 hR3
      go_wp2_with fail
      refine (refAdd_any pq pq mq mq cq cq _ _ w4 (by omega) (by omega) hRq hRq (Nat.le_refl _) (Nat.le_refl _)).mono ?_
      rw [val_digs two]
      rintro e w5 ⟨p5, m5, c5, rfl, hm5, hn5, hR5, hb⟩
      have u5 : m5 ≤ l1 + 1 := by
        refine hR5.short two ?_
        have h1 := (digs_length_le two q l1).1 (by rw [hRq.count]; exact uq)
        rw [Nat.pow_succ]; omega
      replace s1 := s1.next hb
      replace s2 := s2.next hb
      replace hR4 := hR4.next hb
      replace hW := below_next hW hb
      clear hb hRq
      by_cases hge : y ≤ r + r + bt
      · obtain ⟨cv, hcv⟩ : ∃ cv, cmpN (r + r + bt) y = cv := ⟨_, rfl⟩
        have hcv0 : 0 ≤ cv := by have := cmpN_nonneg hge; omega
        go_wp2_with fail
        refine (refCmp_any p4 p2 m4 l2 c4 c2 _ ys w5 hm4 h2 (by omega) (by omega) hR4 s2).mono ?_
        rw [val_digs two, ← HY.out, hcv]
        rintro e w6 ⟨rfl, hb⟩
        replace s1 := s1.next hb
        replace s2 := s2.next hb
        replace hR4 := hR4.next hb
        replace hR5 := hR5.next hb
        replace hW := below_next hW hb
        clear hb hcv
        go_wp2_with fail
        refine (refSub_any p4 p2 m4 l2 c4 c2 _ ys w6 (by omega) (by omega) hR4 s2 (Nat.le_refl _) (Nat.le_refl _) (by rw [val_digs two, ← HY.out]; exact hge)).mono ?_
        rw [val_digs two, ← HY.out]
        rintro e w7 ⟨p7, m7, c7, rfl, hm7, hn7, hR7, hb⟩
        replace hR5 := hR5.next hb
        replace hW := below_next hW hb
        clear hb hR4 s2 s1
        go_wp2_with fail
        have hal : Below w7.heap.size w7 (w7.alloc (.cells #[.int .u32 1] 75)) := (Below.refl _ _).alloc (Nat.le_refl _) _
        have hs1 := single_rd (W := w7) (k := .u32) (β := 65536) (T := 75) (x := 1) (z := 1) (by omega) rfl
        obtain ⟨W8, hW8⟩ : ∃ W8, W8 = w7.alloc (.cells #[.int .u32 1] 75) := ⟨_, rfl⟩
        have hsz8 : W8.heap.size = w7.heap.size + 1 := by rw [hW8]; simp
        rw [← hW8] at hal hs1 ⊢
        rw [← hsz8] at hs1
        clear hW8
        refine (refAdd_any p5 _ m5 1 c5 1 _ _ W8 (by omega) (by omega) (hR5.next hal) hs1 (Nat.le_refl _) (Nat.le_refl _)).mono ?_
        rw [val_digs two, val_single]
        rintro e w9 ⟨p9, m9, c9, rfl, hm9, hn9, hR9, hb⟩
        have hb' := hal.trans (hb.mono (by omega))
        replace hR7 := hR7.next hb'
        replace hW := below_next hW hb'
        have HF := Lib.hid (HBQ.out.2 hge)
        clear hb hb' hal hs1 hR5 HBQ
        go_wp2
        go_roundw
        case rel => exact ⟨i, p9, p7, m9, c9, m7, c7, _, _, by omega, by go_num, rfl, rfl, hm9, hm7, hn9, hn7, hR9, hR7, Lib.hid HF.out.1.symm, Lib.hid HF.out.2.symm, hW⟩
        case measure => simp [intOf]
      · go_wp2_with fail
        refine (refCmp_any p4 p2 m4 l2 c4 c2 _ ys w5 hm4 h2 (by omega) (by omega) hR4 s2).mono ?_
        rw [val_digs two, ← HY.out, cmpN_lt (by omega)]
        rintro e w6 ⟨rfl, hb⟩
        replace hR4 := hR4.next hb
        replace hR5 := hR5.next hb
        replace hW := below_next hW hb
        have HF := Lib.hid (HBQ.out.1 (by omega))
        clear hb HBQ s1 s2
        go_wp2
        go_roundw
        case rel => exact ⟨i, p5, p4, m5, c5, m4, c4, _, _, by omega, by go_num, rfl, rfl, hm5, hm4, hn5, hn4, hR5, hR4, Lib.hid HF.out.1.symm, Lib.hid HF.out.2.symm, hW⟩
        case measure => simp [intOf]
    · obtain rfl : k = 0 := by omega
      have hq' := hq.out
      have hr' := hr.out
      rw [Nat.pow_zero, Nat.div_one] at hq' hr'
      have HQ := Lib.hid hq'
      have HR := Lib.hid hr'
      clear hq hr hq' hr'
      go_wp2
      go_ret2
      exact ⟨_, _, _, _, _, _, rfl, hmq, hnq, by rw [← HQ.out]; exact hRq, hmr, hnr, by rw [← HR.out]; exact hRr, hW⟩

set_option maxRecDepth 100000 in
set_option maxHeartbeats 4000000 in
theorem refGcd_any {B1 B2 : Nat} (p1 p2 : Option Addr) (l1 l2 c1 c2 : Nat) (xs ys : List Nat) (w : World) (h1 : l1 ≤ c1) (h2 : l2 ≤ c2) (k1 : l1 ≤ 10000) (k2 : l2 ≤ 10000) (n1 : p1 = none → c1 = 0) (n2 : p2 = none → c2 = 0)
    (r1 : Rd .u32 65536 B1 w p1 l1 xs) (r2 : Rd .u32 65536 B2 w p2 l2 ys) (hB1 : B1 ≤ w.heap.size) (hB2 : B2 ≤ w.heap.size) :
    Calls Tryz.prog 45 #[.slice p1 l1 c1, .slice p2 l2 c2] w (Gives .u32 65536 w (Nat.gcd (val 65536 xs) (val 65536 ys))) := by
  have two : 2 ≤ 65536 := by omega
  replace r1 := r1.mono hB1
  replace r2 := r2.mono hB2
  obtain ⟨G, hG⟩ : ∃ G, G = Nat.gcd (val 65536 xs) (val 65536 ys) := ⟨_, rfl⟩
  rw [← hG]
  have HG := Lib.hid hG
  clear hG hB1 hB2
  go_enter Tryz.func45, Tryz.ntmps45
  go_wp2_with fail
  go_loopg [0, 1] (val 65536 ys) (fun gh s0 s1 wr => ∃ (pa pb : Option Addr) (ma ca mb cb : Nat) (us vs : List Nat), s0 = .slice pa ma ca ∧ s1 = .slice pb mb cb ∧ ma ≤ ca ∧ mb ≤ cb ∧ ma ≤ 10000 ∧ mb ≤ 10000 ∧ (pa = none → ca = 0) ∧ (pb = none → cb = 0) ∧
      Rd .u32 65536 wr.heap.size wr pa ma us ∧ Rd .u32 65536 wr.heap.size wr pb mb vs ∧ Hid (val 65536 vs = gh) ∧ Hid (G = Nat.gcd (val 65536 us) gh) ∧ Below w.heap.size w wr)
  case atStart => exact ⟨p1, p2, l1, c1, l2, c2, xs, ys, rfl, rfl, h1, h2, k1, k2, n1, n2, r1, r2, Lib.hid rfl, HG, Below.refl _ _⟩
  case round =>
    obtain ⟨pa, pb, ma, ca, mb, cb, us, vs, rfl, rfl, hma, hmb, ka, kb, na, nb, hRa, hRb, hv, hg, hW⟩ := hrel
    have hT := refTrim_val pb mb cb vs wr hmb (by omega) hRb
    by_cases hy : 0 < gk
    · have HT := Lib.hid hT
      clear hT r1 r2
      go_wp2_with fail
      refine (HT.out).mono ?_
      rintro e w' ⟨n, rfl, hn, hR, rfl⟩
      rw [hv.out] at hR
      have hn0 : 0 < n := by
        have := digs_length_pos two gk
        have := hR.count
        omega
      have hn0z : (0 : Int) < (n : Int) := by omega
      clear hR HT
      go_wp2_with fail
      refine (refQuo_any pa pb ma mb ca cb us vs wr hma hmb ka kb hRa hRb (Nat.le_refl _) (Nat.le_refl _) (by rw [hv.out]; exact hy)).mono ?_
      rw [hv.out]
      rintro e w2 ⟨pq, mq, cq, pr, mr, cr, rfl, hmq, nq, hRq, hmr, nr, hRr, hb⟩
      have hlt := Nat.mod_lt (val 65536 us) hy
      have ur : mr ≤ mb := hRr.short two (Nat.lt_trans hlt (by rw [← hv.out]; exact hRb.val_lt (by omega) (Nat.le_refl _)))
      obtain ⟨r', hr'⟩ : ∃ r', r' = val 65536 us % gk := ⟨_, rfl⟩
      rw [← hr'] at hRr hlt
      have HG2 : Hid (G = Nat.gcd (val 65536 vs) r') := Lib.hid (by rw [hg.out, hv.out, hr', Nat.gcd_comm, Nat.gcd_rec, Nat.gcd_comm])
      replace hRb := hRb.next hb
      replace hW := below_next hW hb
      clear hb hRq hRa hg hr'
      go_wp2
      go_roundg r'
      case measure => exact hlt
      case rel => exact ⟨pb, pr, mb, cb, mr, cr, vs, digs 65536 r', rfl, rfl, hmb, hmr, kb, by omega, nb, nr, hRb, hRr, Lib.hid (val_digs two _), HG2, hW⟩
    · have hg0 : gk = 0 := by omega
      subst hg0
      have HT := Lib.hid hT
      have hga := hg.out
      rw [Nat.gcd_zero_right] at hga
      have HGA := Lib.hid hga
      clear hT hga hg
      go_wp2_with fail
      refine (HT.out).mono ?_
      rintro e w' ⟨n, rfl, hn, hR, rfl⟩
      rw [hv.out, digs_zero] at hR
      obtain rfl : 0 = n := hR.count
      clear hR HT
      go_wp2_with fail
      refine (refTrim_val pa ma ca us wr hma (by omega) hRa).mono ?_
      rintro e w' ⟨n, rfl, hn, hR, rfl⟩
      go_wp2
      go_ret
      exact ⟨_, _, _, rfl, by omega, na, by rw [HGA.out]; exact hR, hW⟩
end Go.Proofs.YtndcaajebomkhaaGreatDoor
