/- Where the turn by floats is sure, all bits are finite floats', and it is the exact turn; where the square is sure, it is the exact one, at most one part in 2^50 beside. -/
import Derived.Test.YtknkakkdhihngaaFwD
namespace Go.Proofs.Ytknkakkdhihngaa
open Ieee

/-- All that a product by floats tells. -/
structure ProdIs (K : Nat) (p q t u : Option Nat) (l : Int) (zp zq zt zu : Int) : Prop where
  fp : Finc p zp
  fq : Finc q zq
  ft : Finc t zt
  fu : Finc u zu
  near : 9007199254740991 * (l * K - (zp - zq) * (zt - zu)).natAbs ≤ 5 * (l.natAbs * K) + 9007199254740991 * K
theorem prod_parts {K O : Nat} (hK : IsK K) (hO : IsO O) {p q t u : Option Nat} (hp : Okc p) (hq : Okc q) (ht : Okc t) (hu : Okc u) {l : Int} (h : Finc (prodC p q t u) l) : ∃ zp zq zt zu, ProdIs K p q t u l zp zq zt zu := by
  obtain ⟨x, y, hx, hy, hr⟩ := (mul_law hK hO).parts ((sub_law hO).ok hp hq) ((sub_law hO).ok ht hu) h
  obtain ⟨zp, zq, f1, f2, r1⟩ := (sub_law hO).parts hp hq hx
  obtain ⟨zt, zu, f3, f4, r2⟩ := (sub_law hO).parts ht hu hy
  exact ⟨zp, zq, zt, zu, f1, f2, f3, f4, prod_near r1 r2 hr⟩
theorem prod_ok {p q t u : Option Nat} (hp : Okc p) (hq : Okc q) (ht : Okc t) (hu : Okc u) : Okc (prodC p q t u) := by
  obtain ⟨K, hK⟩ := isK_ex
  obtain ⟨O, hO⟩ := isO_ex
  exact (mul_law hK hO).ok ((sub_law hO).ok hp hq) ((sub_law hO).ok ht hu)
theorem finc_one {x : Option Nat} {y z : Int} (h : Finc x y) (h' : Finc x z) : y = z := by
  obtain ⟨a, h1, _, rfl⟩ := h
  obtain ⟨b, h2, _, rfl⟩ := h'
  rw [h1] at h2; cases h2; rfl
theorem finc_ok {x : Option Nat} {z : Int} (h : Finc x z) : Okc x := by
  obtain ⟨a, rfl, h2, _⟩ := h
  intro b hb
  cases hb
  exact ⟨h2.1, fin_nan h2.2⟩
theorem zero_fin : FinB 0 ∧ fZ 0 = 0 := ⟨⟨by omega, by decide⟩, by decide⟩
theorem fin_bound {O : Nat} (hO : IsO O) {x : Option Nat} {z : Int} (h : Finc x z) : z.natAbs ≤ 2 * P52 * O := by
  obtain ⟨a, _, h2, rfl⟩ := h
  obtain ⟨e, rfl, he⟩ := hO
  rw [fZ_abs]
  unfold fV
  have h3 : fX a ≤ e := by have := h2.2; unfold fX; omega
  exact Nat.mul_le_mul (Nat.le_of_lt (fM_lt a)) (Nat.pow_le_pow_right (by omega) h3)
theorem finc_some {x : Option Nat} {z : Int} (h : Finc x z) : ∃ a, x = some a ∧ FinB a ∧ fZ a = z := h
theorem ord_finc {x y : Option Nat} {u v : Int} (hx : Finc x u) (hy : Finc y v) : ordC x y = some (compare u v) := by
  obtain ⟨a, rfl, ha, rfl⟩ := hx
  obtain ⟨b, rfl, hb, rfl⟩ := hy
  exact order_fin ha hb
theorem abs_finc {x : Option Nat} {u : Int} (hx : Finc x u) : Finc (absC x) (u.natAbs : Int) := by
  obtain ⟨a, rfl, ha, rfl⟩ := hx
  exact ⟨fR a, rfl, ⟨fR_lt64 a, by rw [(fR_fields a).1]; exact ha.2⟩, fR_Z a⟩

/-- What a sure turn tells: l, r are finite; the turn is the sign of their difference, and tells on both. -/
theorem sure_lr {K O : Nat} (hK : IsK K) (hO : IsO O) {l r : Option Nat} (hl : Okc l) (hr : Okc r) (h : sureC l r = true) :
    ∃ x y, Finc l x ∧ Finc r y ∧ ∀ L R : Int, 9007199254740991 * (x * K - L).natAbs ≤ 5 * (x.natAbs * K) + 9007199254740991 * K → 9007199254740991 * (y * K - R).natAbs ≤ 5 * (y.natAbs * K) + 9007199254740991 * K →
      ∃ s : Int, (L - R).sign = s ∧ (s = -1 ∧ ordC (opC double.sub l r) (some 0) = some .lt ∨ s = 1 ∧ ordC (opC double.sub l r) (some 0) = some .gt) := by
  unfold sureC at h
  simp only [Bool.and_eq_true, Bool.not_eq_true'] at h
  obtain ⟨h1, h2⟩ := h
  have hso : Okc (sumC l r) := (add_law hO).ok (abs_ok hl) (abs_ok hr)
  obtain ⟨s, hs, hs2⟩ := firm_fin hso h1
  obtain ⟨u, v, hu, hv, hrel⟩ := (add_law hO).parts (abs_ok hl) (abs_ok hr) hs
  obtain ⟨x, hx, rfl⟩ := abs_parts hl hu
  obtain ⟨y, hy, rfl⟩ := abs_parts hr hv
  refine ⟨x, y, hx, hy, fun L R nl nr => ?_⟩
  obtain ⟨hE, C, hC, hEz⟩ := EPS_fin hK
  have hEc : Finc (some EPS) (C : Int) := ⟨_, rfl, hE, hEz⟩
  have hKp := hK.pos
  have hOp := hO.pos
  -- the bound is finite
  rcases (mul_law hK hO).made hs hEc with ⟨t, ht, hrt⟩ | ⟨t, _, _, _, hov⟩
  · rcases (sub_law hO).made hx hy with ⟨d, hd, hrd⟩ | ⟨d, hd, hdl, hdi, hdo⟩
    · have h3 : t ≤ d.natAbs := by
        unfold smallC at h2
        rw [ord_finc (abs_finc hd) ht] at h2
        rcases cmp_cases (d.natAbs : Int) t with ⟨e, c⟩ | ⟨e, c⟩ | ⟨e, c⟩
        · rw [e] at h2; simp at h2
        · omega
        · omega
      obtain ⟨h4, h5⟩ := turn_core hKp hC nl nr hrd hrel hrt h3 hs2
      refine ⟨_, h4.symm, ?_⟩
      have h6 : ordC (opC double.sub l r) (some 0) = some (compare d 0) := ord_finc hd ⟨0, rfl, zero_fin.1, zero_fin.2⟩
      rw [h6]
      have := sign_cases d
      rcases cmp_cases d 0 with ⟨e, c⟩ | ⟨e, c⟩ | ⟨e, c⟩
      · exact Or.inl ⟨by omega, by rw [e]⟩
      · exact absurd c h5
      · exact Or.inr ⟨by omega, by rw [e]⟩
    · -- the difference is too great
      obtain ⟨ho1, ho2⟩ := hdo
      have hb := fin_bound hO hs
      have h6 : ordC (opC double.sub l r) (some 0) = some (if fS d then .lt else .gt) := by
        rw [hd]; exact (order_inf hdl hdi zero_fin.1).1
      have hD : 5 * (x.natAbs + y.natAbs) + 2 * 9007199254740991 < (x - y).natAbs * 9007199254740991 := by
        unfold Rel P52 at *
        generalize O = o at *
        clear hK hO nl nr hrt hC h2 h1
        omega
      have hsg : (L - R).sign = (x - y).sign := by
        have hdK : 5 * (x.natAbs * K + y.natAbs * K) + 2 * 9007199254740991 * K < (x - y).natAbs * K * 9007199254740991 := by
          have := Nat.mul_lt_mul_of_pos_right hD hKp
          rw [Nat.add_mul, Nat.mul_assoc 5, Nat.add_mul, Nat.mul_right_comm (x - y).natAbs] at this
          exact this
        have hlr : ((x - y) * (K : Int)).natAbs = (x - y).natAbs * K := by rw [Int.natAbs_mul, Int.natAbs_natCast]
        have hX : (x - y) * (K : Int) = x * K - y * K := Int.sub_mul _ _ _
        have hsg : ((x - y) * (K : Int)).sign = (x - y).sign := by
          rw [Int.sign_mul, Int.sign_eq_one_of_pos (by omega : (0 : Int) < K), Int.mul_one]
        rw [← hlr] at hdK
        rw [hX] at hdK hsg
        rw [← hsg]
        generalize x * (K : Int) = U at *
        generalize y * (K : Int) = V at *
        generalize x.natAbs * K = u at *
        generalize y.natAbs * K = v at *
        have c1 := sign_cases (U - V)
        have c2 := sign_cases (L - R)
        clear hsg hlr hX hD hrel hb ho1 ho2 hrt hs2 hC
        omega
      refine ⟨_, hsg, ?_⟩
      rw [h6, ho2]
      have := sign_cases (x - y)
      by_cases c : x - y < 0
      · left; rw [decide_eq_true c]; exact ⟨by omega, rfl⟩
      · right; rw [decide_eq_false c]; exact ⟨by omega, rfl⟩
  · exfalso
    have hb := fin_bound hO hs
    rw [Int.natAbs_mul, Int.natAbs_natCast, hC] at hov
    have h7 : s.natAbs * C ≤ 2 * P52 * O * C := Nat.mul_le_mul_right _ hb
    have h8 : P52 * O * (C * 1125899906842624) = P52 * O * C * 1125899906842624 := by rw [Nat.mul_assoc _ C]
    have h9 : 2 * P52 * O * C = 2 * (P52 * O * C) := by rw [Nat.mul_assoc 2, Nat.mul_assoc 2]
    have h10 : 0 < P52 * O * C := Nat.mul_pos (Nat.mul_pos (by unfold P52; omega) hOp) (by omega)
    rw [h8] at hov
    rw [h9] at h7
    omega

/-- THE BOUND: where the turn by floats is sure, all bits are finite floats', and it is the turn. -/
theorem turn_sure {ax ay bx b2 cx cy : Option Nat} (h1 : Okc ax) (h2 : Okc ay) (h3 : Okc bx) (h4 : Okc b2) (h5 : Okc cx) (h6 : Okc cy) (h : sureC (prodC ax cx b2 cy) (prodC ay cy bx cx) = true) :
    ∃ xa ya xb yb xc yc, Finc ax xa ∧ Finc ay ya ∧ Finc bx xb ∧ Finc b2 yb ∧ Finc cx xc ∧ Finc cy yc ∧
      ∃ s : Int, ((xa - xc) * (yb - yc) - (ya - yc) * (xb - xc)).sign = s ∧ (s = -1 ∧ ordC (opC double.sub (prodC ax cx b2 cy) (prodC ay cy bx cx)) (some 0) = some .lt ∨ s = 1 ∧ ordC (opC double.sub (prodC ax cx b2 cy) (prodC ay cy bx cx)) (some 0) = some .gt) := by
  obtain ⟨K, hK⟩ := isK_ex
  obtain ⟨O, hO⟩ := isO_ex
  obtain ⟨x, y, hx, hy, ha⟩ := sure_lr hK hO (prod_ok h1 h5 h4 h6) (prod_ok h2 h6 h3 h5) h
  obtain ⟨a1, a2, a3, a4, A⟩ := prod_parts hK hO h1 h5 h4 h6 hx
  obtain ⟨b1, b2', b3, b4, B⟩ := prod_parts hK hO h2 h6 h3 h5 hy
  have e1 := finc_one A.fq B.fu
  have e2 := finc_one A.fu B.fq
  subst e1
  subst e2
  exact ⟨_, _, _, _, _, _, A.fp, B.fp, B.ft, A.ft, A.fq, A.fu, ha _ _ A.near B.near⟩

/-- The square by floats. -/
def farC (ax ay bx b2 : Option Nat) : Option Nat := opC double.add (prodC ax bx ax bx) (prodC ay b2 ay b2)
theorem far_sure {ax ay bx b2 : Option Nat} (h1 : Okc ax) (h2 : Okc ay) (h3 : Okc bx) (h4 : Okc b2) (h : firmC (farC ax ay bx b2) = true) :
    ∃ xa ya xb yb d, Finc ax xa ∧ Finc ay ya ∧ Finc bx xb ∧ Finc b2 yb ∧ Finc (farC ax ay bx b2) d ∧ 0 < d ∧
      ∀ K, IsK K → (d * (K : Int) - ((xa - xb) * (xa - xb) + (ya - yb) * (ya - yb))).natAbs * 1125899906842624 ≤ ((xa - xb) * (xa - xb) + (ya - yb) * (ya - yb)).natAbs ∧ 0 < (xa - xb) * (xa - xb) + (ya - yb) * (ya - yb) := by
  obtain ⟨O, hO⟩ := isO_ex
  have o1 := prod_ok h1 h3 h1 h3
  have o2 := prod_ok h2 h4 h2 h4
  obtain ⟨d, hd, hd2⟩ := firm_fin ((add_law hO).ok o1 o2) h
  obtain ⟨l, r, hl, hr, hrel⟩ := (add_law hO).parts o1 o2 hd
  obtain ⟨K0, hK0⟩ := isK_ex
  obtain ⟨a1, a2, a3, a4, A0⟩ := prod_parts hK0 hO h1 h3 h1 h3 hl
  obtain ⟨b1, b2', b3, b4, B0⟩ := prod_parts hK0 hO h2 h4 h2 h4 hr
  refine ⟨a1, b1, a2, b2', d, A0.fp, B0.fp, A0.fq, B0.fq, hd, by omega, fun K hK => ?_⟩
  obtain ⟨x, y, hx, hy, hxy⟩ := (mul_law hK hO).parts ((sub_law hO).ok h1 h3) ((sub_law hO).ok h1 h3) hl
  obtain ⟨x', y', hx', hy', hxy'⟩ := (mul_law hK hO).parts ((sub_law hO).ok h2 h4) ((sub_law hO).ok h2 h4) hr
  have e1 := finc_one hx hy
  have e2 := finc_one hx' hy'
  subst e1
  subst e2
  obtain ⟨c1, c2, c3, c4, A⟩ := prod_parts hK hO h1 h3 h1 h3 hl
  obtain ⟨d1, d2, d3, d4, B⟩ := prod_parts hK hO h2 h4 h2 h4 hr
  have f1 := finc_one A.fp A0.fp
  have f2 := finc_one A.fq A0.fq
  have f3 := finc_one A.ft A0.fp
  have f4 := finc_one A.fu A0.fq
  have g1 := finc_one B.fp B0.fp
  have g2 := finc_one B.fq B0.fq
  have g3 := finc_one B.ft B0.fp
  have g4 := finc_one B.fu B0.fq
  subst f1 f2 f3 f4 g1 g2 g3 g4
  exact far_core hK.pos A.near B.near (square_pos hK.pos hxy) (square_pos hK.pos hxy') hrel hd2
end Go.Proofs.Ytknkakkdhihngaa
