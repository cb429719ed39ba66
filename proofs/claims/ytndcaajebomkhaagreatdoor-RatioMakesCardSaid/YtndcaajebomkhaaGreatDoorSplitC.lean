/- Layer 3 (split): byLimbs and Quo of any numbers. -/
import Derived.Test.YtndcaajebomkhaaGreatDoorSplitB
namespace Go.Proofs.YtndcaajebomkhaaGreatDoor
open Go.RowKit

theorem digs_top_pos {y n : Nat} (hn : 0 < n) (h : (digs W64 y).length = n) : 0 < nth (digs W64 y) (n - 1) := by
  have hy : 0 < y := by
    have := digs_length_pos two_le_W64 y
    omega
  have := (digs_top two_le_W64 y hy).2
  rw [h] at this
  omega
theorem digs_ge {y n : Nat} (hn : 0 < n) (h : (digs W64 y).length = n) : W64 ^ (n - 1) ≤ y := (digs_lt_length two_le_W64 y (n - 1)).1 (by omega)
theorem digs_lt {y n : Nat} (h : (digs W64 y).length = n) : y < W64 ^ n := (digs_length_le two_le_W64 y n).1 (by omega)
theorem shl_short {y n s : Nat} (h : (digs W64 y).length = n) (hs : s < 64) : y * 2 ^ s < W64 ^ (n + 1) := by
  rw [Nat.pow_succ]
  have h1 : (2 : Nat) ^ s < W64 := by rw [W64_pow]; exact Nat.pow_lt_pow_right (by omega) hs
  exact Nat.mul_lt_mul'' (digs_lt h) h1
theorem digs_mono {x y n m : Nat} (hx : (digs W64 x).length = n) (hy : (digs W64 y).length = m) (h : y ≤ x) : m ≤ n := by
  have h1 := digs_lt hx
  rw [← hy]; exact (digs_length_le two_le_W64 y n).2 (by omega)

set_option maxRecDepth 100000 in
set_option maxHeartbeats 4000000 in
theorem byLimbs_any (p1 p2 : Option Addr) (l1 l2 c1 c2 x y : Nat) (w : World) (h1 : l1 ≤ c1) (h2 : l2 ≤ c2) (k1 : l1 ≤ 1024) (k2 : l2 ≤ 1024) (hl2 : 0 < l2)
    (r1 : Rd .u64 W64 w.heap.size w p1 l1 (digs W64 x)) (r2 : Rd .u64 W64 w.heap.size w p2 l2 (digs W64 y)) (hxy : y ≤ x) :
    Calls Tryz.prog 54 #[.slice p1 l1 c1, .slice p2 l2 c2] w (GivesQR w (x / y) (x % y)) := by
  have hy0 : 0 < y := by
    have := (digs_length_pos two_le_W64 y)
    have := r2.count
    omega
  obtain ⟨b2, o2, rfl, _, hct⟩ := r2.cell (l2 - 1) (by omega)
  have htw := r2.word (l2 - 1) (by omega)
  have htp := digs_top_pos hl2 r2.count
  obtain ⟨t, ht⟩ : ∃ t, t = nth (digs W64 y) (l2 - 1) := ⟨_, rfl⟩
  rw [← ht] at hct htw htp
  obtain ⟨tk, hnb, htk1, htk2⟩ := nbits_pos htp
  have htk : tk < 64 := by
    rcases Nat.lt_or_ge tk 64 with h | h
    · exact h
    · have := Nat.pow_le_pow_right (show 0 < 2 by omega) h
      rw [W64_pow] at htw
      omega
  obtain ⟨s, hs⟩ : ∃ s, s = 63 - tk := ⟨_, rfl⟩
  have HL := bits_LeadingZeros64 (t : Int) w (by omega) (by unfold W64 at htw; omega)
  rw [Int.toNat_natCast, bitLen_nbits t htw, hnb] at HL
  replace HL : Calls Tryz.prog 85 #[.int .u64 (t : Int)] w fun e w' => e = .returned (.int .i64 (s : Int)) ∧ w = w' :=
    HL.mono fun e w' ⟨h1, h2⟩ => ⟨by rw [h1]; congr 2; omega, h2.symm⟩
  have HC := Lib.hid HL
  have hs64 : s < 64 := by omega
  have hlz : 0 ≤ (l2 : Int) - 1 := by omega
  have hlz2 : ((l2 : Int) - 1).toNat = l2 - 1 := by omega
  have hlz3 : (l2 : Int) - 1 < l2 := by omega
  clear HL ht htw htp hnb htk1 htk2 htk hs
  go_enter Tryz.func54, Tryz.ntmps54
  go_wp2_with (go_at_call 85; refine (HC.out).mono ?_; rintro e w' ⟨rfl, rfl⟩)
  refine (natShl_tight _ l2 c2 s 0 s (digs W64 y) w h2 (by omega) r2 (Nat.le_refl _) (by rw [val_digs two_le_W64, r2.count]; omega) (by omega) (by omega) (by omega)).mono ?_
  rintro e w1 ⟨q2, m2, rfl, hq2, hR2, hb⟩
  rw [val_digs two_le_W64] at hR2
  replace r1 := r1.next hb
  have hm2 : m2 ≤ l2 + 1 := hR2.short two_le_W64 (shl_short r2.count hs64)
  have hW := hb
  clear hb HC hct
  go_wp2_with fail
  refine (natShl_tight p1 l1 c1 s 0 s (digs W64 x) w1 h1 (by omega) r1 (Nat.le_refl _) (by rw [val_digs two_le_W64, r1.count]; omega) (by omega) (by omega) (by omega)).mono ?_
  rintro e w2 ⟨q1, m1, rfl, hq1, hR1, hb⟩
  rw [val_digs two_le_W64] at hR1
  have hm1 : m1 ≤ l1 + 1 := hR1.short two_le_W64 (shl_short r1.count hs64)
  replace hR2 := hR2.next hb
  replace hW := below_next hW hb
  clear hb r1 r2
  have hpw : 0 < 2 ^ s := Nat.pow_pos (by omega)
  obtain ⟨X, hX⟩ : ∃ X, X = x * 2 ^ s := ⟨_, rfl⟩
  obtain ⟨Y, hY⟩ : ∃ Y, Y = y * 2 ^ s := ⟨_, rfl⟩
  rw [← hX] at hR1
  rw [← hY] at hR2
  have hXY : Y ≤ X := by rw [hX, hY]; exact Nat.mul_le_mul_right _ hxy
  have hY0 : 0 < Y := by rw [hY]; exact Nat.mul_pos hy0 hpw
  have HQ : Hid (X / Y = x / y ∧ X % Y / 2 ^ s = x % y) := Lib.hid ⟨by rw [hX, hY]; exact div_moved (a := x) (b := y) (s := s), by rw [hX, hY]; exact mod_moved (a := x) (b := y) (s := s)⟩
  have hmm : m2 ≤ m1 := digs_mono hR1.count hR2.count hXY
  have hm20 : 0 < m2 := by
    have := digs_length_pos two_le_W64 Y
    have := hR2.count
    omega
  have hYge : Hid (W64 ^ (m2 - 1) ≤ Y) := Lib.hid (digs_ge hm20 hR2.count)
  have hYlt : Hid (Y < W64 ^ m2) := Lib.hid (digs_lt hR2.count)
  have hXlt : Hid (X < W64 ^ m1) := Lib.hid (digs_lt hR1.count)
  have hYtop : Hid (0 < nth (digs W64 Y) (m2 - 1)) := Lib.hid (digs_top_pos hm20 hR2.count)
  clear hX hY hXY
  go_wp2_with (at_builtin; refine wpl_append_full Tryz.numTy64 rfl _ _ rfl q1 m1 _ rfl (hR1.below ((Below.refl _ _).alloc (Nat.le_refl _) _)) 0 ⟨w2.heap.size, 0, none⟩ rfl (by simp [go_sem]) (by omega) (by omega) ?_)
  intro g cap w3 hcap hcap2 hg hown hgrow
  obtain ⟨f, hrow, hf⟩ := owns_row hown
  have hg1 : w2.heap.size ≤ g := by omega
  have hwg : w.heap.size ≤ g := by have := hW.size; omega
  have hb : Below w2.heap.size w2 w3 := (((Below.refl _ _).alloc (Nat.le_refl _) _).grown hgrow (by simp) (fun k hk => by simp at hk))
  have hcnt := hR1.count
  have hAl : (digs W64 X ++ [0]).length = m1 + 1 := by simp [hcnt]
  have HF : Hid (∀ j, j < m1 + 1 → f j = .int .u64 ((nth (digs W64 X ++ [0]) j : Nat) : Int)) := Lib.hid (fun j hj => by
    have := hf j hj
    rw [ints_at _ _ _ (by omega)] at this
    simpa using this)
  have hAw : ∀ j, nth (digs W64 X ++ [0]) j < W64 := fun j => by
    by_cases h : j < m1
    · rw [nth_append_lt _ _ _ (by omega)]; exact digs_word two_le_W64 _ _
    · by_cases h2 : j = m1
      · rw [nth_snoc _ _ _ (by omega)]; exact W64_pos
      · rw [nth_past _ _ (by omega)]; exact W64_pos
  have hAv : val W64 (digs W64 X ++ [0]) = X := by rw [val_append, val_digs two_le_W64, val_single]; simp
  have hstart : val W64 ((digs W64 X ++ [0]).drop (m1 + 1 - m2)) < Y := by
    rw [← val_div _ _ (fun i _ => hAw i) W64_pos, hAv]
    refine Nat.lt_of_lt_of_le ?_ hYge.out
    rw [Nat.div_lt_iff_lt_mul (Nat.pow_pos W64_pos), ← Nat.pow_add, show m2 - 1 + (m1 + 1 - m2) = m1 by omega]
    exact hXlt.out
  replace hR2 := (hR2.below hb).mono hg1
  replace hW := below_next hW hb
  have HAl := Lib.hid hAl
  have HAv := Lib.hid hAv
  have HS := Lib.hid (LongInv.start W64_pos hAw hstart)
  clear hb hown hgrow hf hcnt hg hR1 hAl hAw hAv hstart hXlt hYge
  go_wp2_with (at_make; refine wpl_make_nums Tryz.numTy64 rfl _ _ rfl _ _ _ _ (m1 + 1 - m2) rfl rfl (by omega) (by omega) (by omega) (by omega) ?_)
  intro w4 hrow2 hgrow
  have hgw := hrow.lt
  have hb : Below w3.heap.size w3 w4 := (Below.refl _ _).grown hgrow (Nat.le_refl _) (fun k hk => by simp at hk)
  obtain ⟨g2, hg2⟩ : ∃ g2, g2 = w3.heap.size := ⟨_, rfl⟩
  rw [← hg2] at hrow2 ⊢
  have hg12 : g < g2 := by omega
  replace hrow := hrow.below hb hgw
  replace hR2 := hR2.below (hb.mono (by omega))
  replace hW := below_next hW hb
  clear hb hgrow hg2
  go_wp2_with fail
  obtain ⟨ds, has⟩ : ∃ ds, ds = digs W64 X ++ [0] := ⟨_, rfl⟩
  rw [← has] at HF HAl HAv HS
  clear has
  obtain ⟨M, hM⟩ : ∃ M, M = m1 + 1 - m2 := ⟨_, rfl⟩
  rw [← hM] at hrow2 HS ⊢
  have hMm : M + m2 = m1 + 1 := by omega
  clear hM
  go_loopw [9] (fun i wr => ∃ (k : Nat) (zs qs : List Nat) (f f2 : Nat → Value), k ≤ M ∧ i = .int .i64 ((k : Int) - 1) ∧ Hid (LongInv W64 ds Y M k zs qs) ∧ Row wr g 53 cap f ∧ Row wr g2 53 M f2 ∧
      Hid (∀ j, j < m1 + 1 → f j = .int .u64 ((nth zs j : Nat) : Int)) ∧ Hid (∀ j, j < qs.length → f2 (k + j) = .int .u64 ((nth qs j : Nat) : Int)) ∧ Rd .u64 W64 g wr q2 m2 (digs W64 Y) ∧ Below w.heap.size w wr) (fun i _ => (intOf i + 1).toNat)
  case atStart => exact ⟨M, ds, [], f, _, Nat.le_refl _, by go_num, HS, hrow, hrow2, HF, Lib.hid (fun j hj => by simp at hj), hR2, hW⟩
  case round =>
    clear hrow hrow2 HF hR2 hW HS
    obtain ⟨k, zs, qs, f, f2, hk, rfl, HI, hrow, hrow2, HF, HF2, hR2, hW⟩ := hrel
    by_cases hlt : 0 < k
    · obtain ⟨i, hi⟩ : ∃ i, k = i + 1 := ⟨k - 1, by omega⟩
      subst hi
      have hiz : ((i + 1 : Nat) : Int) - 1 = (i : Int) := by omega
      have n4 : ¬ cap = i := by omega
      rw [hiz]
      go_wp2_with fail
      rw [show i + m2 + 1 - i = m2 + 1 by omega]
      have hgw' := hrow.lt
      have hiM : i + (m2 + 1) ≤ ds.length := by rw [HAl.out]; omega
      have hzl : zs.length = m1 + 1 := by rw [HI.out.zl, HAl.out]
      have hp := HI.out.part hY0 (Nat.le_of_lt hYlt.out) hiM
      obtain ⟨ps, hps⟩ : ∃ ps, ps = (zs.drop i).take (m2 + 1) := ⟨_, rfl⟩
      rw [← hps] at hp
      refine (takeOut_any g cap i m2 (cap - i) m2 f q2 ps (digs W64 Y) wr (by omega) (by omega) (by omega) (by omega) (Nat.le_refl _) hrow hp.count (fun j hj => by rw [HF.out _ (by omega), hp.at' j hj]) hp.word hR2 (Nat.le_refl _) hYtop.out (by rw [val_digs two_le_W64]; exact hp.lt)).mono ?_
      rw [val_digs two_le_W64]
      rintro e w5 ⟨ls, f', rfl, hll, hlw, hlv, hrow', hpart, hgr⟩
      have HI' := Lib.hid (HI.out.next W64_pos hY0 (Nat.le_of_lt hYlt.out) hiM (P := val W64 ps) (by rw [hps]) hll hlw hlv)
      obtain ⟨q, hq⟩ : ∃ q, q = val W64 ps / Y := ⟨_, rfl⟩
      rw [← hq] at HI' ⊢
      have HF' : Hid (∀ j, j < m1 + 1 → f' j = .int .u64 ((nth (zs.take i ++ (ls ++ zs.drop (i + (m2 + 1)))) j : Nat) : Int)) := Lib.hid (fun j hj => by
        rw [long_cells hzl (by omega) hll j]
        split
        · rename_i h
          have := hpart.new (j - i) (by omega)
          rwa [show i + (j - i) = j by omega] at this
        · rw [hpart.old j (by rw [hll]; omega)]; exact HF.out j hj)
      have hrow2' : Row w5 g2 53 M f2 := hrow2.kept (hgr.block g2 hrow2.lt (by simp; omega))
      have hR2' : Rd .u64 W64 g w5 q2 m2 (digs W64 Y) := hR2.grown hgr (Nat.le_refl _) (by omega)
      have hW' : Below w.heap.size w w5 := hW.grown hgr hW.size (fun j hj => by simp at hj; omega)
      have hcl := hrow2'.cell i (by omega)
      have hfr := hrow2'.free i
      have hiM2 : (i : Int) < M := by omega
      have H6 := hrow2'.set i (.int .u64 (q : Int))
      have HF2' := Lib.hid (up_cons (v := q) rfl HF2.out)
      have hrow5 := hrow'.kept (w' := w5.setCell ⟨g2, i, none⟩ (.int .u64 (q : Int))) (Below.heap_setCell _ _ _ _ (by simp; omega))
      have hR5 : Rd .u64 W64 g (w5.setCell ⟨g2, i, none⟩ (.int .u64 (q : Int))) q2 m2 (digs W64 Y) := hR2'.below ((Below.refl g w5).setCell (by simp; omega) _)
      have hW5 := hW'.setCell (p := ⟨g2, i, none⟩) (by simp; omega) (.int .u64 (q : Int))
      clear hq hps hp hzl hlv hlw hll hpart hgr HF HF2 HI hrow hrow2 hrow' hrow2' hR2 hR2' hW hW' hiM
      go_wp2
      go_roundw
      case rel => exact ⟨i, _, q :: qs, f', _, by omega, by go_num, HI', hrow5, H6, HF', HF2', hR5, hW5⟩
      case measure => simp [intOf]
    · obtain rfl : k = 0 := by omega
      have hI := HI.out
      have hzv : val W64 zs = X % Y := by have := hI.rem; rwa [List.drop_zero, List.drop_zero, HAv.out] at this
      have hqv : val W64 qs = X / Y := by have := hI.quo; rwa [List.drop_zero, HAv.out] at this
      have hql : qs.length = M := by have := hI.ql; omega
      have hrd1 : Rd .u64 W64 wr.heap.size wr (some ⟨g, 0, none⟩) (m1 + 1) zs := hrow.rd 0 (m1 + 1) zs hrow.lt (by omega) (by rw [hI.zl, HAl.out]) (fun j _ => hI.zw j) (fun j hj => by rw [Nat.zero_add]; exact HF.out j hj)
      have hrd2 : Rd .u64 W64 wr.heap.size wr (some ⟨g2, 0, none⟩) M qs := hrow2.rd 0 M qs hrow2.lt (by omega) hql (fun j _ => hI.qw j) (fun j hj => HF2.out j (by omega))
      have HZ := Lib.hid hzv
      have HQV := Lib.hid hqv
      clear hI hzv hqv hql HF HF2 HI hR2 hrow hrow2
      go_wp2_with fail
      refine (plain_any _ M M qs _ (Nat.le_refl _) (by omega) hrd2).mono ?_
      rintro e w5 ⟨qa, ma, ca, rfl, hma, hqa, hRa, hb⟩
      rw [HQV.out, HQ.out.1] at hRa
      replace hrd1 := hrd1.next hb
      replace hW := below_next hW hb
      clear hb hrd2
      go_wp2_with fail
      refine (natShr_any _ (m1 + 1) cap s (s : Int) zs _ (by omega) (by omega) hrd1 (Nat.le_refl _) (Or.inl rfl) (by omega)).mono ?_
      rintro e w6 ⟨qb, mb, cb, rfl, hmb, hqb, hRb, hb⟩
      rw [HZ.out, HQ.out.2] at hRb
      replace hRa := hRa.next hb
      replace hW := below_next hW hb
      go_wp2
      go_ret2
      exact ⟨_, _, _, _, _, _, rfl, hma, hqa, hRa, hmb, hqb, hRb, hW⟩

/-- Two numbers come back beside no error. -/
def GivesQ3 (w : World) (q r : Nat) (e : Ending) (w' : World) : Prop :=
  ∃ p1 m1 c1 p2 m2 c2, e = .returned (.tuple #[.slice p1 m1 c1, .slice p2 m2 c2, .nilIface]) ∧ m1 ≤ c1 ∧ (p1 = none → c1 = 0) ∧ Rd .u64 W64 w'.heap.size w' p1 m1 (digs W64 q) ∧
    m2 ≤ c2 ∧ (p2 = none → c2 = 0) ∧ Rd .u64 W64 w'.heap.size w' p2 m2 (digs W64 r) ∧ Below w.heap.size w w'
/-- No numbers, and a code. -/
def FailsQ (w : World) (code : Int) (e : Ending) (w' : World) : Prop :=
  e = .returned (.tuple #[.slice none 0 0, .slice none 0 0, .iface 73 (.int .i64 code)]) ∧ Below w.heap.size w w'

/-- Cmp, where no more is asked of the world than that what was there stays. -/
theorem natCmp_below {B1 B2 : Nat} (p1 p2 : Option Addr) (l1 l2 c1 c2 : Nat) (xs ys : List Nat) (w : World) (h1 : l1 ≤ c1) (h2 : l2 ≤ c2) (k1 : l1 ≤ 1000000) (k2 : l2 ≤ 1000000)
    (r1 : Rd .u64 W64 B1 w p1 l1 xs) (r2 : Rd .u64 W64 B2 w p2 l2 ys) {c : Int} (hc : cmpN (val W64 xs) (val W64 ys) = c) :
    Calls Tryz.prog 52 #[.slice p1 l1 c1, .slice p2 l2 c2] w fun e w' => e = .returned (.int .i64 c) ∧ Below w.heap.size w w' :=
  (natCmp_any p1 p2 l1 l2 c1 c2 xs ys w h1 h2 k1 k2 r1 r2).mono fun _ _ ⟨he, n, hw⟩ => ⟨by rw [he, hc], by rw [hw]; exact below_drewN (Below.refl _ _) n⟩

set_option maxHeartbeats 1000000 in
theorem splitQuo_zero {B1 B2 : Nat} (p1 p2 : Option Addr) (l1 l2 c1 c2 : Nat) (xs ys : List Nat) (w : World) (h1 : l1 ≤ c1) (h2 : l2 ≤ c2) (k1 : l1 ≤ 1000000) (k2 : l2 ≤ 1000000)
    (r1 : Rd .u64 W64 B1 w p1 l1 xs) (r2 : Rd .u64 W64 B2 w p2 l2 ys) (hB1 : B1 ≤ w.heap.size) (hB2 : B2 ≤ w.heap.size) (hy : val W64 ys = 0) :
    Calls Tryz.prog 20 #[.slice p1 l1 c1, .slice p2 l2 c2] w (FailsQ w 6) := by
  have HY := Lib.hid hy
  clear hy
  go_enter Tryz.func20, Tryz.ntmps20
  go_wp2_with fail
  refine (plain_any p1 l1 c1 xs w h1 k1 r1).mono ?_
  rintro e w1 ⟨q1, m1, d1, rfl, hm1, hq1, hR1, hb⟩
  replace r2 := (r2.mono hB2).next hb
  have hW := hb
  clear hb r1
  go_wp2_with fail
  refine (plain_any p2 l2 c2 ys w1 h2 k2 r2).mono ?_
  rintro e w2 ⟨q2, m2, d2, rfl, hm2, hq2, hR2, hb⟩
  rw [HY.out, digs_zero] at hR2
  obtain rfl : 0 = m2 := hR2.count
  replace hW := below_next hW hb
  clear hb hR2
  go_wp2
  go_ret3
  exact ⟨rfl, hW⟩

set_option maxRecDepth 100000 in
set_option maxHeartbeats 4000000 in
theorem splitQuo_any {B1 B2 : Nat} (p1 p2 : Option Addr) (l1 l2 c1 c2 : Nat) (xs ys : List Nat) (w : World) (h1 : l1 ≤ c1) (h2 : l2 ≤ c2) (k1 : l1 ≤ 1024) (k2 : l2 ≤ 1024)
    (r1 : Rd .u64 W64 B1 w p1 l1 xs) (r2 : Rd .u64 W64 B2 w p2 l2 ys) (hB1 : B1 ≤ w.heap.size) (hB2 : B2 ≤ w.heap.size) (hy : 0 < val W64 ys) :
    Calls Tryz.prog 20 #[.slice p1 l1 c1, .slice p2 l2 c2] w (GivesQ3 w (val W64 xs / val W64 ys) (val W64 xs % val W64 ys)) := by
  obtain ⟨x, hx⟩ : ∃ x, x = val W64 xs := ⟨_, rfl⟩
  obtain ⟨y, hy'⟩ : ∃ y, y = val W64 ys := ⟨_, rfl⟩
  rw [← hx, ← hy']
  rw [← hy'] at hy
  have HX := Lib.hid hx
  have HY := Lib.hid hy'
  clear hx hy'
  go_enter Tryz.func20, Tryz.ntmps20
  go_wp2_with fail
  refine (plain_any p1 l1 c1 xs w h1 (by omega) r1).mono ?_
  rintro e w1 ⟨q1, m1, d1, rfl, hm1, hq1, hR1, hb⟩
  rw [← HX.out] at hR1
  replace r2 := (r2.mono hB2).next hb
  have hW := hb
  have s1 : m1 ≤ l1 := hR1.short two_le_W64 (by rw [HX.out]; exact r1.val_lt W64_pos (Nat.le_refl _))
  clear hb r1
  go_wp2_with fail
  refine (plain_any p2 l2 c2 ys w1 h2 (by omega) r2).mono ?_
  rintro e w2 ⟨q2, m2, d2, rfl, hm2, hq2, hR2, hb⟩
  rw [← HY.out] at hR2
  replace hR1 := hR1.next hb
  replace hW := below_next hW hb
  have s2 : m2 ≤ l2 := hR2.short two_le_W64 (by rw [HY.out]; exact r2.val_lt W64_pos (Nat.le_refl _))
  have hm20 : 0 < m2 := by
    have := digs_length_pos two_le_W64 y
    have := hR2.count
    omega
  clear hb r2
  have ht := tooLong_any q1 q2 m1 m2 d1 d2 w2 (by omega) (by omega)
  rw [decide_eq_false (show ¬ (1024 < m1 ∨ 1024 < m2) by omega)] at ht
  have HT := Lib.hid ht
  clear ht
  go_wp2_with (go_at_call 51; refine (HT.out).mono ?_; rintro e w' ⟨rfl, rfl⟩)
  by_cases hlt : x < y
  · refine (natCmp_below q1 q2 m1 m2 d1 d2 _ _ w2 hm1 hm2 (by omega) (by omega) hR1 hR2 (c := -1) (by rw [val_digs two_le_W64, val_digs two_le_W64]; exact cmpN_lt hlt)).mono ?_
    rintro e w3 ⟨rfl, hb⟩
    replace hR1 := hR1.next hb
    replace hW := below_next hW hb
    go_wp2
    go_ret3
    refine ⟨none, 0, 0, _, _, _, rfl, Nat.le_refl _, fun _ => rfl, ?_, hm1, hq1, ?_, hW⟩
    · rw [Nat.div_eq_of_lt hlt, digs_zero]; exact Rd.nil _ _ _ _ _
    · rw [Nat.mod_eq_of_lt hlt]; exact hR1
  · obtain ⟨cv, hcv⟩ : ∃ cv, cmpN x y = cv := ⟨_, rfl⟩
    have hcv0 : 0 ≤ cv := by have := cmpN_nonneg (show y ≤ x by omega); omega
    refine (natCmp_below q1 q2 m1 m2 d1 d2 _ _ w2 hm1 hm2 (by omega) (by omega) hR1 hR2 (c := cv) (by rw [val_digs two_le_W64, val_digs two_le_W64]; exact hcv)).mono ?_
    rintro e w3 ⟨rfl, hb⟩
    replace hR1 := hR1.next hb
    replace hR2 := hR2.next hb
    replace hW := below_next hW hb
    clear hb hcv HT
    by_cases hm : m2 = 1
    · subst hm
      have hcnt := hR2.count
      have hyw : y < W64 := by have := digs_lt hcnt; rwa [Nat.pow_one] at this
      have hd : digs W64 y = [y] := by rw [digs_pos two_le_W64 hy, Nat.mod_eq_of_lt hyw, Nat.div_eq_of_lt hyw, digs_zero]
      obtain ⟨b, o, rfl, _, hc0⟩ := hR2.cell 0 (by omega)
      rw [hd, nth_cons_zero, Nat.add_zero] at hc0
      clear hcnt hd
      go_wp2_with fail
      refine (byLimb_any q1 m1 d1 y (digs W64 x) w3 (by omega) hR1 (Nat.le_refl _) hy hyw).mono ?_
      rw [val_digs two_le_W64]
      rintro e w4 ⟨qa, ma, ca, qb, mb, cb, rfl, hma, hqa, hRa, hmb, hqb, hRb, hb⟩
      replace hW := below_next hW hb
      go_wp2
      go_ret3
      exact ⟨_, _, _, _, _, _, rfl, hma, hqa, hRa, hmb, hqb, hRb, hW⟩
    · have hmz : ¬ (m2 : Int) = 1 := by omega
      go_wp2_with fail
      refine (byLimbs_any q1 q2 m1 m2 d1 d2 x y w3 hm1 hm2 (by omega) (by omega) hm20 hR1 hR2 (by omega)).mono ?_
      rintro e w4 ⟨qa, ma, ca, qb, mb, cb, rfl, hma, hqa, hRa, hmb, hqb, hRb, hb⟩
      replace hW := below_next hW hb
      go_wp2
      go_ret3
      exact ⟨_, _, _, _, _, _, rfl, hma, hqa, hRa, hmb, hqb, hRb, hW⟩

/-- As GivesQO, beside no error. -/
def GivesQ3O (w : World) (q r : Nat) (e : Ending) (w' : World) : Prop :=
  ∃ p1 m1 c1 p2 m2 c2 B, e = .returned (.tuple #[.slice p1 m1 c1, .slice p2 m2 c2, .nilIface]) ∧ m1 ≤ c1 ∧ (p1 = none → c1 = 0) ∧ Rd .u64 W64 B w' p1 m1 (digs W64 q) ∧
    w'.ownsRow B 53 1 (.slice p2 m2 c2) m2 (ints .u64 (digs W64 r)) ∧ w.heap.size ≤ B ∧ B ≤ w'.heap.size ∧ (∀ a, p1 = some a → w.heap.size ≤ a.block) ∧ Below w.heap.size w w'

set_option maxRecDepth 100000 in
set_option maxHeartbeats 4000000 in
theorem splitQuo_limb {B1 B2 : Nat} (p1 p2 : Option Addr) (l1 l2 c1 c2 : Nat) (xs ys : List Nat) (w : World) (h1 : l1 ≤ c1) (h2 : l2 ≤ c2) (k1 : l1 ≤ 1024) (k2 : l2 ≤ 1024)
    (r1 : Rd .u64 W64 B1 w p1 l1 xs) (r2 : Rd .u64 W64 B2 w p2 l2 ys) (hB1 : B1 ≤ w.heap.size) (hB2 : B2 ≤ w.heap.size) (hy : 0 < val W64 ys) (hyw : val W64 ys < W64) :
    Calls Tryz.prog 20 #[.slice p1 l1 c1, .slice p2 l2 c2] w (GivesQ3O w (val W64 xs / val W64 ys) (val W64 xs % val W64 ys)) := by
  obtain ⟨x, hx⟩ : ∃ x, x = val W64 xs := ⟨_, rfl⟩
  obtain ⟨y, hy'⟩ : ∃ y, y = val W64 ys := ⟨_, rfl⟩
  rw [← hx, ← hy']
  rw [← hy'] at hy hyw
  have HX := Lib.hid hx
  have HY := Lib.hid hy'
  clear hx hy'
  go_enter Tryz.func20, Tryz.ntmps20
  go_wp2_with fail
  refine (plain_own p1 l1 c1 xs w h1 (by omega) r1).mono ?_
  rintro e w1 ⟨q1, m1, d1, rfl, hO1, hb⟩
  rw [← HX.out] at hO1
  replace r2 := (r2.mono hB2).next hb
  have hW := hb
  have hR1 : Rd .u64 W64 w1.heap.size w1 q1 m1 (digs W64 x) := owns_rd hO1 (Nat.le_refl _) (fun i _ => digs_word two_le_W64 _ _)
  have hm1 := owns_room hO1
  have s1 : m1 ≤ l1 := hR1.short two_le_W64 (by rw [HX.out]; exact r1.val_lt W64_pos (Nat.le_refl _))
  clear hb r1
  go_wp2_with fail
  refine (plain_any p2 l2 c2 ys w1 h2 (by omega) r2).mono ?_
  rintro e w2 ⟨q2, m2, d2, rfl, hm2, hq2, hR2, hb⟩
  rw [← HY.out] at hR2
  replace hR1 := hR1.next hb
  replace hO1 := owns_below hO1 hb (Nat.le_refl _)
  replace hW := below_next hW hb
  have hd : digs W64 y = [y] := by rw [digs_pos two_le_W64 hy, Nat.mod_eq_of_lt hyw, Nat.div_eq_of_lt hyw, digs_zero]
  rw [hd] at hR2
  obtain rfl : 1 = m2 := hR2.count
  clear hb r2 hd
  have ht := tooLong_any q1 q2 m1 1 d1 d2 w2 (by omega) (by omega)
  rw [decide_eq_false (show ¬ (1024 < m1 ∨ 1024 < 1) by omega)] at ht
  have HT := Lib.hid ht
  clear ht
  go_wp2_with (go_at_call 51; refine (HT.out).mono ?_; rintro e w' ⟨rfl, rfl⟩)
  by_cases hlt : x < y
  · refine (natCmp_below q1 q2 m1 1 d1 d2 _ _ w2 hm1 hm2 (by omega) (by omega) hR1 hR2 (c := -1) (by rw [val_digs two_le_W64, val_single]; exact cmpN_lt hlt)).mono ?_
    rintro e w3 ⟨rfl, hb⟩
    replace hO1 := owns_below hO1 hb (Nat.le_refl _)
    have hWs := hW.size
    have hbs := hb.size
    replace hW := below_next hW hb
    go_wp2
    go_ret3
    refine ⟨none, 0, 0, _, _, _, w.heap.size, rfl, Nat.le_refl _, fun _ => rfl, ?_, ?_, Nat.le_refl _, hW.size, (fun a ha => by cases ha), hW⟩
    · rw [Nat.div_eq_of_lt hlt, digs_zero]; exact Rd.nil _ _ _ _ _
    · rw [Nat.mod_eq_of_lt hlt]; exact hO1
  · obtain ⟨cv, hcv⟩ : ∃ cv, cmpN x y = cv := ⟨_, rfl⟩
    have hcv0 : 0 ≤ cv := by have := cmpN_nonneg (show y ≤ x by omega); omega
    refine (natCmp_below q1 q2 m1 1 d1 d2 _ _ w2 hm1 hm2 (by omega) (by omega) hR1 hR2 (c := cv) (by rw [val_digs two_le_W64, val_single]; exact hcv)).mono ?_
    rintro e w3 ⟨rfl, hb⟩
    replace hR1 := hR1.next hb
    replace hR2 := hR2.next hb
    replace hW := below_next hW hb
    clear hb hcv HT hO1
    obtain ⟨b, o, rfl, _, hc0⟩ := hR2.cell 0 (by omega)
    rw [nth_cons_zero, Nat.add_zero] at hc0
    go_wp2_with fail
    refine (byLimb_own q1 m1 d1 y (digs W64 x) w3 (by omega) hR1 (Nat.le_refl _) hy hyw).mono ?_
    rw [val_digs two_le_W64]
    rintro e w4 ⟨qa, ma, ca, qb, mb, cb, B, rfl, hma, hqa, hRa, hOb, hB3, hB4, hnew, hb⟩
    have hWs := hW.size
    replace hW := below_next hW hb
    go_wp2
    go_ret3
    exact ⟨_, _, _, _, _, _, B, rfl, hma, hqa, hRa, hOb, by omega, hB4, (fun a ha => by have := hnew a ha; omega), hW⟩
end Go.Proofs.YtndcaajebomkhaaGreatDoor
