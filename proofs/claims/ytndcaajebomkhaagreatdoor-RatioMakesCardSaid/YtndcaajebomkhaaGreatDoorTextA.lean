/- Layer 3 (split): cutUp of any numbers: parts below 10^19. -/
import Derived.Test.YtndcaajebomkhaaGreatDoorSplitC
import Derived.Deep.LoopGhost
namespace Go.Proofs.YtndcaajebomkhaaGreatDoor
open Go.RowKit

/-- 10^19. -/
def P19 : Nat := 10000000000000000000
theorem two_le_P19 : 2 ≤ P19 := by unfold P19; omega
theorem P19_pos : 0 < P19 := by unfold P19; omega
theorem P19_lt : P19 < W64 := by unfold P19 W64; omega
theorem P19_ge : 2 ^ 63 ≤ P19 := by unfold P19; omega

/-- So many parts a number may have. -/
theorem parts_few {x n y k m : Nat} (ps : List Nat) (h : val P19 ps + P19 ^ n * y = x) (hy : 0 < y) (hx : x < W64 ^ k) (hm : m = 64 * k) : 63 * n < m := by
  have h1 : P19 ^ n * 1 ≤ P19 ^ n * y := Nat.mul_le_mul_left _ hy
  have h2 : (2 ^ 63) ^ n ≤ P19 ^ n := Nat.pow_le_pow_left P19_ge n
  rw [← Nat.pow_mul] at h2
  rw [W64_pow, ← Nat.pow_mul, ← hm] at hx
  rcases Nat.lt_or_ge (63 * n) m with h' | h'
  · exact h'
  · have := Nat.pow_le_pow_right (show 0 < 2 by omega) h'
    omega
theorem part_step {x y n : Nat} (ps : List Nat) (hl : ps.length = n) (h : val P19 ps + P19 ^ n * y = x) : val P19 (ps ++ [y % P19]) + P19 ^ (n + 1) * (y / P19) = x := by
  rw [val_append, val_single, hl, Nat.pow_succ, Nat.add_assoc, Nat.mul_assoc, ← Nat.mul_add, Nat.add_comm (y % P19), Nat.div_add_mod]
  exact h
theorem digs_small_nth {r : Nat} (h : r < W64) : nth (digs W64 r ++ [0]) 0 = r := by
  by_cases h0 : r = 0
  · subst h0; rw [digs_zero]; rfl
  · rw [digs_pos two_le_W64 (by omega), Nat.mod_eq_of_lt h, Nat.div_eq_of_lt h, digs_zero]; rfl
theorem digs_small_len {r : Nat} (h : r < W64) : (digs W64 r).length ≤ 1 := (digs_length_le two_le_W64 r 1).2 (by rwa [Nat.pow_one])
/-- Parts that make a number, the highest not 0: its own. -/
theorem parts_are {x n : Nat} (ps : List Nat) (hl : ps.length = n) (hw : ∀ i, i < n → nth ps i < P19) (h : val P19 ps + P19 ^ n * 0 = x) (ht : n = 0 ∨ nth ps (n - 1) ≠ 0) : ps = digs P19 x := by
  rw [Nat.mul_zero, Nat.add_zero] at h
  rw [← h]
  exact digs_of two_le_P19 ps (fun i hi => hw i (by omega)) (by rw [hl]; exact ht)

/-- What lies in newer blocks is not written by a row that lay there before. -/
theorem Rd.newer {k : IntKind} {β B S : Nat} {w w' : World} {p : Option Addr} {len : Nat} {zs : List Nat} {row : Option Nat} (h : Rd k β B w p len zs) (hn : ∀ a, p = some a → S ≤ a.block) (hg : w.grownBy w' row) (hr : ∀ j, row = some j → j < S) (hB : B ≤ w.heap.size) : Rd k β B w' p len zs :=
  ⟨h.count, h.word, fun i hi => by
    obtain ⟨b, o, h1, h2, h3⟩ := h.cell i hi
    have h4 := hn _ h1
    refine ⟨b, o, h1, h2, ?_⟩
    have hh := hg.block b (by omega) (fun h => by have := hr _ h.symm; simp at h4; omega)
    unfold World.cell? at h3 ⊢
    simp only at h3 ⊢
    rw [hh]; exact h3⟩

set_option maxRecDepth 100000 in
set_option maxHeartbeats 4000000 in
theorem cutUp_any {B : Nat} (p0 : Option Addr) (l0 c0 : Nat) (xs : List Nat) (w : World) (h1 : l0 ≤ c0) (k1 : l0 ≤ 1024) (r1 : Rd .u64 W64 B w p0 l0 xs) (hB : B ≤ w.heap.size) :
    Calls Tryz.prog 24 #[.slice p0 l0 c0] w fun e w' => ∃ q m c, e = .returned (.tuple #[.slice q m c, .nilIface]) ∧ m ≤ c ∧ (q = none → c = 0) ∧ Rd .u64 P19 w'.heap.size w' q m (digs P19 (val W64 xs)) ∧ m ≤ 1100 ∧ Below w.heap.size w w' := by
  obtain ⟨x, hx⟩ : ∃ x, x = val W64 xs := ⟨_, rfl⟩
  rw [← hx]
  have HX := Lib.hid hx
  have HXlt : Hid (x < W64 ^ l0) := Lib.hid (by rw [hx]; exact r1.val_lt W64_pos (Nat.le_refl _))
  have HP1 := Lib.hid P19_lt
  have HP0 := Lib.hid P19_pos
  clear hx
  go_enter Tryz.func24, Tryz.ntmps24
  go_wp2_with fail
  go_loopg [0, 4] x (fun gh s0 s4 wr => ∃ (p : Option Addr) (m c n : Nat) (q : Option Addr) (cq : Nat) (ds ps : List Nat), s0 = .slice p m c ∧ m ≤ c ∧ m ≤ 1024 ∧ s4 = .slice q n cq ∧ Rd .u64 W64 wr.heap.size wr p m ds ∧ Hid (val W64 ds = gh) ∧
      wr.ownsRow w.heap.size 53 1 (.slice q n cq) n (ints .u64 ps) ∧ Hid (ps.length = n) ∧ Hid (∀ i, i < n → nth ps i < P19) ∧ Hid (val P19 ps + P19 ^ n * gh = x) ∧ Hid (0 < gh ∨ n = 0 ∨ nth ps (n - 1) ≠ 0) ∧ n ≤ 1100 ∧ Below w.heap.size w wr)
  case atStart => exact ⟨p0, l0, c0, 0, none, 0, xs, [], rfl, h1, k1, rfl, r1.mono hB, Lib.hid HX.out.symm, World.ownsRow_nil _ _ _ _, Lib.hid rfl, Lib.hid (fun i hi => by omega), Lib.hid (by simp [val_nil]), Lib.hid (Or.inr (Or.inl rfl)), by omega, Below.refl _ _⟩
  case round =>
    obtain ⟨p, m, c, n, q, cq, ds, ps, rfl, hmc, hm, rfl, hR, hv, hown, hpl, hpw, hpv, hpt, hn, hW⟩ := hrel
    by_cases hy : 0 < gk
    · have hL := natLen_any p m c ds wr hmc (by omega) hR
      obtain ⟨nb, hnb⟩ : ∃ nb, nb = nbits (val W64 ds) := ⟨_, rfl⟩
      rw [← hnb] at hL
      have hnb0 : (0 : Int) < (nb : Int) := by
        obtain ⟨k, hk, _⟩ := nbits_pos (show 0 < val W64 ds by rw [hv.out]; exact hy)
        omega
      have HL := Lib.hid hL
      clear hL hnb r1
      go_wp2_with (go_at_call 60; refine (HL.out).mono ?_; rintro e w' ⟨rfl, rfl⟩)
      have hal : Below wr.heap.size wr (wr.alloc (.cells #[.int .u64 10000000000000000000] 53)) := (Below.refl _ _).alloc (Nat.le_refl _) _
      have hs1 := single_rd (W := wr) (k := .u64) (β := W64) (T := 53) (x := P19) (z := 10000000000000000000) HP1.out (by unfold P19; rfl)
      obtain ⟨W1, hW1⟩ : ∃ W1, W1 = wr.alloc (.cells #[.int .u64 10000000000000000000] 53) := ⟨_, rfl⟩
      have hsz1 : W1.heap.size = wr.heap.size + 1 := by rw [hW1]; simp
      rw [← hW1] at hal hs1 ⊢
      clear hW1
      have hgl : gk < W64 ^ m := by rw [← hv.out]; exact hR.val_lt W64_pos (Nat.le_refl _)
      have HGL := Lib.hid hgl
      clear hgl
      refine (splitQuo_limb p _ m 1 c 1 ds [P19] W1 hmc (Nat.le_refl _) hm (by omega) (hR.next hal) hs1 (Nat.le_refl _) (by omega) (by rw [val_single]; exact HP0.out) (by rw [val_single]; exact HP1.out)).mono ?_
      rw [hv.out, val_single]
      rintro e W2 ⟨q1, m1, c1, q2, m2, c2, B2, rfl, hm1, hq1, hRq, hO, hB1, hB2, hnew, hb⟩
      obtain ⟨y', hy'⟩ : ∃ y', y' = gk / P19 := ⟨_, rfl⟩
      obtain ⟨r, hr⟩ : ∃ r, r = gk % P19 := ⟨_, rfl⟩
      rw [← hy'] at hRq
      rw [← hr] at hO
      have hrP : r < P19 := by rw [hr]; exact Nat.mod_lt _ HP0.out
      have hylt : y' < gk := by rw [hy']; exact Nat.div_lt_self hy two_le_P19
      have hm1' : m1 ≤ m := hRq.short two_le_W64 (Nat.lt_trans hylt HGL.out)
      have hfew := parts_few ps hpv.out hy HXlt.out rfl
      have hm2 : m2 ≤ 1 := by
        have h1 := hO.1
        rw [ints_length] at h1
        have := digs_small_len (Nat.lt_trans hrP HP1.out)
        omega
      have HV1 := Lib.hid (part_step ps hpl.out hpv.out)
      have HT1 : Hid (0 < y' ∨ n + 1 = 0 ∨ nth (ps ++ [r]) (n + 1 - 1) ≠ 0) := Lib.hid (by
        by_cases h : 0 < y'
        · exact Or.inl h
        · right; right
          have h0 : gk / P19 = 0 := by omega
          have h2 := Nat.div_add_mod gk P19
          rw [h0, ← hr] at h2
          rw [nth_snoc _ _ _ (by rw [hpl.out]; omega)]
          omega)
      have HW1 : Hid (∀ i, i < n + 1 → nth (ps ++ [r]) i < P19) := Lib.hid (fun i hi => by
        by_cases h : i < n
        · rw [nth_append_lt _ _ _ (by rw [hpl.out]; exact h)]; exact hpw.out i h
        · rw [nth_snoc _ _ _ (by rw [hpl.out]; omega)]; exact hrP)
      have HL1 : Hid ((ps ++ [r]).length = n + 1) := Lib.hid (by rw [List.length_append, hpl.out]; rfl)
      rw [← hr, ← hy'] at HV1
      have hwr2 : Below wr.heap.size wr W2 := hal.trans (hb.mono (by omega))
      have hlt := fun k hk => hown.lt k hk
      have HLT := Lib.hid hlt
      clear hr hy' hpv hpt hpw hpl hs1 hal HL hlt
      go_wp2_with (at_builtin; refine wpl_append_one Tryz.numTy64 rfl _ _ rfl B2 m2 _ (digs W64 r) rfl (hO.alloc _) 0 ⟨W2.heap.size, 0, none⟩ rfl (by simp [go_sem]) (by omega) (by omega) (by simp; omega) ?_)
      intro q3 c3 W4 hO4 hgrow
      have hb24 : Below B2 W2 W4 := ((Below.refl B2 W2).alloc hB2 _).grown hgrow (by simp; omega) (fun k hk => (hO.lt k hk).1)
      have hwr4 : Below wr.heap.size wr W4 := hwr2.trans (hb24.mono (by omega))
      have hO5 := owns_below hown hwr4 (Nat.le_refl _)
      replace hRq := hRq.below hb24
      obtain ⟨g, cap, hq3, hg, _, _⟩ := owns_shape hO4 (by omega)
      simp only [Value.slice.injEq, true_and] at hq3
      obtain ⟨rfl, rfl⟩ := hq3
      obtain ⟨f, hrow, hf⟩ := owns_row hO4
      have hroom := owns_room hO4
      have hc0 : W4.cell? ⟨g, 0, none⟩ = some (.int .u64 (r : Int)) := by
        rw [hrow.cell 0 (by omega), hf 0 (by omega), ints_at _ _ _ (by simp), digs_small_nth (Nat.lt_trans hrP HP1.out)]
      have hB4 : B2 ≤ W4.heap.size := Nat.le_trans hB2 hb24.size
      clear hrow hf hO4 hO hgrow hb24 hown hb hwr2
      go_wp2_with (at_builtin; refine wpl_append_one Tryz.numTy64 rfl _ _ rfl w.heap.size n _ ps rfl (hO5.alloc _) r ⟨W4.heap.size, 0, none⟩ rfl (by simp [go_sem]) (by omega) (by omega) (by have := hW.size; have := hwr4.size; simp; omega) ?_)
      intro q5 c5 W6 hO6 hgrow
      have hRq6 : Rd .u64 W64 B2 W6 q1 m1 (digs W64 y') := (hRq.below ((Below.refl B2 W4).alloc hB4 _)).newer (S := W1.heap.size) hnew hgrow (fun k hk => by have := (HLT.out k hk).2; omega) (by simp; omega)
      have hsz6 : B2 ≤ W6.heap.size := Nat.le_trans (by simp; omega) hgrow.size
      have hW6 : Below w.heap.size w W6 := ((below_next hW hwr4).alloc (by have := hW.size; have := hwr4.size; omega) _).grown hgrow (by have := hW.size; have := hwr4.size; simp; omega) (fun k hk => (HLT.out k hk).1)
      clear hgrow hO5 hRq hc0
      go_wp2
      go_roundg y'
      case measure => exact hylt
      case rel => exact ⟨q1, m1, c1, n + 1, q5, c5, digs W64 y', ps ++ [r], rfl, hm1, by omega, rfl, hRq6.mono hsz6, Lib.hid (val_digs two_le_W64 _), hO6, HL1, HW1, HV1, HT1, by omega, hW6⟩
    · have hg0 : gk = 0 := by omega
      subst hg0
      have hL := natLen_any p m c ds wr hmc (by omega) hR
      rw [hv.out, nbits_zero] at hL
      have HL := Lib.hid hL
      have hpt2 : n = 0 ∨ nth ps (n - 1) ≠ 0 := hpt.out.resolve_left (by omega)
      have hps := parts_are ps hpl.out hpw.out hpv.out hpt2
      have hrd : Rd .u64 P19 wr.heap.size wr q n ps := owns_rd hown (Nat.le_refl _) (fun i hi => hpw.out i (by rw [hpl.out] at hi; exact hi))
      rw [hps] at hrd
      have hroom := owns_room hown
      have hnil := owns_nil hown
      clear hL hps hown hpl hpw hpv hpt hpt2
      go_wp2_with (go_at_call 60; refine (HL.out).mono ?_; rintro e w' ⟨rfl, rfl⟩)
      go_ret2
      exact ⟨_, _, _, rfl, hroom, hnil, hrd, hn, hW⟩
end Go.Proofs.YtndcaajebomkhaaGreatDoor
