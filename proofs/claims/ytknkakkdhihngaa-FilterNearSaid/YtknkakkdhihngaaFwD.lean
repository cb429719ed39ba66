/- The document's turn and square by floats, of bits up to which of those that are no numbers: as functions; where they are sure. -/
import Derived.Test.YtknkakkdhihngaaFwC
namespace Go.Proofs.Ytknkakkdhihngaa
open Ieee

def opC (f : Nat → Nat → Option Nat) (x y : Option Nat) : Option Nat := x.bind fun a => y.bind fun b => f a b
def ordC (x y : Option Nat) : Option Ordering := x.bind fun a => y.bind fun b => double.order a b
def absC (x : Option Nat) : Option Nat := x.map fR
def T900 : Nat := 553942754166571008
def EPS : Nat := 4382002437431492608
def MAXF : Nat := 9218868437227405311
def firmC (s : Option Nat) : Bool := (ordC (some T900) s == some .lt || ordC (some T900) s == some .eq) && (ordC s (some MAXF) == some .lt || ordC s (some MAXF) == some .eq)
/-- (p - q)(t - u) -/
def prodC (p q t u : Option Nat) : Option Nat := opC double.mul (opC double.sub p q) (opC double.sub t u)
def sumC (l r : Option Nat) : Option Nat := opC double.add (absC l) (absC r)
def smallC (d s : Option Nat) : Bool := ordC (absC d) (opC double.mul s (some EPS)) == some .lt
def sureC (l r : Option Nat) : Bool := firmC (sumC l r) && !smallC (opC double.sub l r) (sumC l r)
def signC (l r : Option Nat) : Int := if sureC l r then (if ordC (opC double.sub l r) (some 0) == some .lt then -1 else 1) else 0
/-- The document's spelling of what counts. -/
def countsC (s : Option Nat) : Bool := (ordC s s == some .eq) && (ordC s (some 9218868437227405312) == some .lt) && (ordC s (some T900) == some .gt || ordC s (some T900) == some .eq)

/-- Words alone, none of which is no number. -/
def Okc (x : Option Nat) : Prop := ∀ a, x = some a → a < 18446744073709551616 ∧ nanB a = false
def Finc (x : Option Nat) (z : Int) : Prop := ∃ a, x = some a ∧ FinB a ∧ fZ a = z

theorem cls_ok (b : Nat) (hb : b < 18446744073709551616) : Okc (Cls b) := by
  intro a h
  unfold Cls at h
  split at h
  · cases h
  · rename_i hn
    cases h
    exact ⟨hb, by simpa using hn⟩
theorem cls_fin {b : Nat} {z : Int} (h : Finc (Cls b) z) : FinB b ∧ fZ b = z := by
  obtain ⟨a, h1, h2, h3⟩ := h
  unfold Cls at h1
  split at h1
  · cases h1
  · cases h1; exact ⟨h2, h3⟩
theorem fin_cls {b : Nat} (h : FinB b) : Cls b = some b := by
  unfold Cls nanB
  have := h.2
  rw [decide_eq_false (by omega)]
  simp
theorem order_cls (a b : Nat) (ha : a < 18446744073709551616) (hb : b < 18446744073709551616) : double.order a b = ordC (Cls a) (Cls b) := by
  unfold ordC Cls
  cases h1 : nanB a
  · cases h2 : nanB b
    · rfl
    · rw [order_nan ha hb (Or.inr h2)]; rfl
  · rw [order_nan ha hb (Or.inl h1)]; rfl
theorem inf_nan {r : Nat} (h : Infin r) : nanB r = false := by
  unfold nanB; rw [decide_eq_true h.1, decide_eq_false (by have := h.2; omega)]; rfl
theorem fin_nan {r : Nat} (h : fE r < 2047) : nanB r = false := by
  unfold nanB; rw [decide_eq_false (by omega)]; rfl

/-- What holds of one of the three operations: of bits that are no number none; what is no finite float gives none. -/
structure OpLaw (f : Nat → Nat → Option Nat) (R : Int → Int → Int → Prop) (V : Int → Int → Nat → Prop) : Prop where
  lt : ∀ {a b r}, f a b = some r → r < 18446744073709551616
  nan : ∀ {a b}, a < 18446744073709551616 → b < 18446744073709551616 → nanB a = true ∨ nanB b = true → f a b = none
  not : ∀ {a b}, notNum (double.read a) = true ∨ notNum (double.read b) = true → f a b = none ∨ ∃ r, f a b = some r ∧ Infin r
  fin : ∀ {a b}, FinB a → FinB b → ∃ r, f a b = some r ∧ ((Infin r ∧ V (fZ a) (fZ b) r) ∨ (fE r < 2047 ∧ R (fZ a) (fZ b) (fZ r)))
theorem add_law {O : Nat} (hO : IsO O) : OpLaw double.add (fun x y r => Rel (x + y) r) (fun x y r => Over O (x + y) r) := ⟨fun h => Format.add_lt _ h, add_nan, add_not, add_fin hO⟩
theorem sub_law {O : Nat} (hO : IsO O) : OpLaw double.sub (fun x y r => Rel (x - y) r) (fun x y r => Over O (x - y) r) := ⟨fun h => Format.sub_lt _ h, sub_nan, sub_not, sub_fin hO⟩
theorem mul_law {K O : Nat} (hK : IsK K) (hO : IsO O) : OpLaw double.mul (fun x y r => RelP K (x * y) r) (fun x y _ => P52 * O * K ≤ (x * y).natAbs) := ⟨fun h => Format.mul_lt _ h, mul_nan, mul_not, mul_fin hK hO⟩

section
variable {f : Nat → Nat → Option Nat} {R : Int → Int → Int → Prop} {V : Int → Int → Nat → Prop} (F : OpLaw f R V)
include F
theorem OpLaw.cases {a b : Nat} (ha : a < 18446744073709551616) (hb : b < 18446744073709551616) :
    f a b = none ∨ ∃ r, f a b = some r ∧ (Infin r ∨ (FinB a ∧ FinB b ∧ FinB r ∧ R (fZ a) (fZ b) (fZ r))) := by
  by_cases h1 : fE a < 2047
  · by_cases h2 : fE b < 2047
    · obtain ⟨r, h3, h4⟩ := F.fin ⟨ha, h1⟩ ⟨hb, h2⟩
      refine Or.inr ⟨r, h3, h4.imp And.left fun h => ⟨⟨ha, h1⟩, ⟨hb, h2⟩, ⟨F.lt h3, h.1⟩, h.2⟩⟩
    · exact (F.not (Or.inr (read_not hb h2))).imp id fun ⟨r, h3, h4⟩ => ⟨r, h3, Or.inl h4⟩
  · exact (F.not (Or.inl (read_not ha h1))).imp id fun ⟨r, h3, h4⟩ => ⟨r, h3, Or.inl h4⟩
theorem OpLaw.ok {x y : Option Nat} (hx : Okc x) (hy : Okc y) : Okc (opC f x y) := by
  intro r h
  cases x with
  | none => simp [opC] at h
  | some a =>
    cases y with
    | none => simp [opC] at h
    | some b =>
      have h1 : f a b = some r := h
      refine ⟨F.lt h1, ?_⟩
      rcases F.cases (hx a rfl).1 (hy b rfl).1 with h2 | ⟨r', h2, h3⟩
      · rw [h1] at h2; cases h2
      · rw [h1] at h2; cases h2
        rcases h3 with h3 | h3
        · exact inf_nan h3
        · exact fin_nan h3.2.2.1.2
theorem OpLaw.parts {x y : Option Nat} {z : Int} (hx : Okc x) (hy : Okc y) (h : Finc (opC f x y) z) : ∃ u v, Finc x u ∧ Finc y v ∧ R u v z := by
  obtain ⟨r, h1, h2, rfl⟩ := h
  cases x with
  | none => simp [opC] at h1
  | some a =>
    cases y with
    | none => simp [opC] at h1
    | some b =>
      have h1 : f a b = some r := h1
      rcases F.cases (hx a rfl).1 (hy b rfl).1 with h3 | ⟨r', h3, h4⟩
      · rw [h1] at h3; cases h3
      · rw [h1] at h3; cases h3
        rcases h4 with h4 | h4
        · have := h4.1; have := h2.2; omega
        · exact ⟨_, _, ⟨a, rfl, h4.1, rfl⟩, ⟨b, rfl, h4.2.1, rfl⟩, h4.2.2.2⟩
/-- Of finite floats: a finite one, or an infinite one. -/
theorem OpLaw.made {x y : Option Nat} {u v : Int} (hx : Finc x u) (hy : Finc y v) : (∃ z, Finc (opC f x y) z ∧ R u v z) ∨ (∃ r, opC f x y = some r ∧ r < 18446744073709551616 ∧ Infin r ∧ V u v r) := by
  obtain ⟨a, rfl, ha, rfl⟩ := hx
  obtain ⟨b, rfl, hb, rfl⟩ := hy
  obtain ⟨r, h3, h4⟩ := F.fin ha hb
  rcases h4 with h4 | h4
  · exact Or.inr ⟨r, h3, F.lt h3, h4.1, h4.2⟩
  · exact Or.inl ⟨_, ⟨r, h3, ⟨F.lt h3, h4.1⟩, rfl⟩, h4.2⟩
/-- The result's class is that of the operands' classes. -/
theorem OpLaw.cls {a b : Nat} (ha : a < 18446744073709551616) (hb : b < 18446744073709551616) : (match f a b with | some r => r < 18446744073709551616 ∧ Cls r = opC f (Cls a) (Cls b) | none => opC f (Cls a) (Cls b) = none) := by
  cases h1 : nanB a
  · cases h2 : nanB b
    · have e1 : Cls a = some a := by unfold Cls; rw [h1]; rfl
      have e2 : Cls b = some b := by unfold Cls; rw [h2]; rfl
      have e3 : opC f (Cls a) (Cls b) = f a b := by rw [e1, e2]; rfl
      have ho := F.ok (x := some a) (y := some b) (fun c h => by cases h; exact ⟨ha, h1⟩) (fun c h => by cases h; exact ⟨hb, h2⟩)
      rw [e3]
      cases h3 : f a b with
      | none => rfl
      | some r =>
        have h4 := ho r h3
        refine ⟨h4.1, ?_⟩
        unfold Cls; rw [h4.2]; rfl
    · rw [F.nan ha hb (Or.inr h2)]
      have e2 : Cls b = none := by unfold Cls; rw [h2]; rfl
      rw [e2]; cases Cls a <;> rfl
  · rw [F.nan ha hb (Or.inl h1)]
    have e1 : Cls a = none := by unfold Cls; rw [h1]; rfl
    rw [e1]; rfl
end

theorem fR_fields (b : Nat) : fE (fR b) = fE b ∧ fF (fR b) = fF b ∧ fS (fR b) = false := by
  refine ⟨?_, ?_, ?_⟩
  · unfold fE fR P52 P63; omega
  · unfold fF fR P52 P63; omega
  · unfold fS; exact decide_eq_false (by have := fR_lt b; omega)
theorem fR_Z (b : Nat) : fZ (fR b) = ((fZ b).natAbs : Int) := by
  obtain ⟨h1, h2, h3⟩ := fR_fields b
  rw [fZ_abs]
  unfold fZ fV fM fX
  rw [h1, h2, h3, wv_false]
theorem fR_lt64 (b : Nat) : fR b < 18446744073709551616 := by have := fR_lt b; unfold P63 at this; omega
theorem abs_ok {x : Option Nat} (h : Okc x) : Okc (absC x) := by
  intro a h1
  cases x with
  | none => cases h1
  | some b =>
    cases h1
    refine ⟨fR_lt64 b, ?_⟩
    have := (h b rfl).2
    unfold nanB at *
    rw [(fR_fields b).1, (fR_fields b).2.1]; exact this
theorem abs_cls (b : Nat) : Cls (fR b) = absC (Cls b) := by
  unfold Cls nanB
  rw [(fR_fields b).1, (fR_fields b).2.1]
  split <;> rfl
theorem abs_parts {x : Option Nat} {z : Int} (hx : Okc x) (h : Finc (absC x) z) : ∃ u, Finc x u ∧ z = (u.natAbs : Int) := by
  obtain ⟨a, h1, h2, rfl⟩ := h
  cases x with
  | none => cases h1
  | some b =>
    cases h1
    exact ⟨fZ b, ⟨b, rfl, ⟨(hx b rfl).1, by have := h2.2; rwa [(fR_fields b).1] at this⟩, rfl⟩, fR_Z b⟩

theorem T900_fin : FinB T900 ∧ fZ T900 = 23945242826029513411849172299223580994042798784118784 := ⟨⟨by unfold T900; omega, by unfold fE T900 P52; omega⟩, by decide⟩
theorem MAXF_fin : FinB MAXF := ⟨by unfold MAXF; omega, by unfold fE MAXF P52; omega⟩
theorem EPS_x : fX EPS = 972 ∧ fM EPS = P52 ∧ fS EPS = false := by
  unfold fX fM fS fE fF EPS P52 P63; decide
theorem EPS_fin {K : Nat} (hK : IsK K) : FinB EPS ∧ ∃ C : Nat, K = C * 1125899906842624 ∧ fZ EPS = (C : Int) := by
  refine ⟨⟨by unfold EPS; omega, by unfold fE EPS P52; omega⟩, fV EPS, ?_, ?_⟩
  · obtain ⟨e, rfl, he⟩ := hK
    obtain ⟨hx, hm, _⟩ := EPS_x
    obtain ⟨x, hx2⟩ : ∃ x, x = fX EPS := ⟨_, rfl⟩
    unfold fV
    rw [hm, ← hx2, P52_pow, show (1125899906842624 : Nat) = 2 ^ 50 by decide, ← Nat.pow_add, ← Nat.pow_add]
    rw [← hx2] at hx
    have : e = 52 + x + 50 := by omega
    rw [this]
  · unfold fZ
    rw [EPS_x.2.2, wv_false]

theorem ord_some {x y : Option Nat} {o : Ordering} (h : ordC x y = some o) : ∃ a b, x = some a ∧ y = some b ∧ double.order a b = some o := by
  cases x with
  | none => simp [ordC] at h
  | some a =>
    cases y with
    | none => simp [ordC] at h
    | some b => exact ⟨a, b, rfl, rfl, h⟩
theorem cmp_cases (x y : Int) : (compare x y = .lt ∧ x < y) ∨ (compare x y = .eq ∧ x = y) ∨ (compare x y = .gt ∧ y < x) := by
  rcases Int.lt_trichotomy x y with h | h | h
  · exact Or.inl ⟨cmp_lt h, h⟩
  · subst h; exact Or.inr (Or.inl ⟨cmp_eq, rfl⟩)
  · exact Or.inr (Or.inr ⟨cmp_gt h, h⟩)
/-- An infinite one lies on one side of all finite ones. -/
theorem order_inf {a b : Nat} (ha : a < 18446744073709551616) (hi : Infin a) (hb : FinB b) : double.order a b = some (if fS a then .lt else .gt) ∧ double.order b a = some (if fS a then .gt else .lt) := by
  unfold Format.order
  rw [read_inf a ha hi.1 hi.2, read_fin b hb.1 hb.2]
  exact ⟨rfl, rfl⟩
theorem word_cases {a : Nat} (h : a < 18446744073709551616 ∧ nanB a = false) : FinB a ∨ Infin a := by
  by_cases h1 : fE a < 2047
  · exact Or.inl ⟨h.1, h1⟩
  · right
    have h2 := fE_lt a
    have h3 := h.2
    unfold nanB at h3
    rw [decide_eq_true (by omega)] at h3
    simp at h3
    exact ⟨by omega, h3⟩
theorem fV_le_max {b : Nat} (h : FinB b) : fV b ≤ fV MAXF := by
  have h1 := fR_is b
  have h2 := fF_lt b
  have h3 := h.2
  have h4 : fR MAXF = 9218868437227405311 := by unfold fR MAXF P63; omega
  have h5 : fR b ≤ 9218868437227405311 := by
    rw [h1]
    have : fE b * P52 ≤ 2046 * P52 := Nat.mul_le_mul_right _ (by omega)
    have hP : P52 = 4503599627370496 := rfl
    omega
  rcases Nat.lt_or_ge (fR b) (fR MAXF) with h6 | h6
  · exact Nat.le_of_lt (fV_mono h6)
  · exact Nat.le_of_eq (fV_same (by omega))

theorem max_ge {b : Nat} (h : FinB b) : fZ b ≤ fZ MAXF := by
  have h1 := fV_le_max h
  have hs : fS MAXF = false := by unfold fS MAXF P63; rfl
  unfold fZ
  rw [hs, wv_false]
  cases fS b
  · rw [wv_false]; omega
  · rw [wv_true]; omega

theorem firm_fin {s : Option Nat} (hs : Okc s) (h : firmC s = true) : ∃ z, Finc s z ∧ 23945242826029513411849172299223580994042798784118784 ≤ z := by
  unfold firmC at h
  simp only [Bool.and_eq_true, Bool.or_eq_true, beq_iff_eq] at h
  cases s with
  | none => simp [ordC] at h
  | some a =>
    have h1 : double.order T900 a = some .lt ∨ double.order T900 a = some .eq := h.1
    have h2 : double.order a MAXF = some .lt ∨ double.order a MAXF = some .eq := h.2
    rcases word_cases (hs a rfl) with hf | hi
    · refine ⟨_, ⟨a, rfl, hf, rfl⟩, ?_⟩
      rw [order_fin T900_fin.1 hf, T900_fin.2] at h1
      rcases cmp_cases 23945242826029513411849172299223580994042798784118784 (fZ a) with ⟨e, c⟩ | ⟨e, c⟩ | ⟨e, c⟩
      · omega
      · omega
      · rw [e] at h1; simp at h1
    · exfalso
      rw [(order_inf (hs a rfl).1 hi T900_fin.1).2] at h1
      rw [(order_inf (hs a rfl).1 hi MAXF_fin).1] at h2
      cases hS : fS a <;> rw [hS] at h1 h2 <;> simp at h1 h2
theorem counts_firm {s : Option Nat} (hs : Okc s) : countsC s = firmC s := by
  unfold countsC firmC
  cases s with
  | none => rfl
  | some a =>
    show ((double.order a a == some .eq) && (double.order a 9218868437227405312 == some .lt) && (double.order a T900 == some .gt || double.order a T900 == some .eq)) = ((double.order T900 a == some .lt || double.order T900 a == some .eq) && (double.order a MAXF == some .lt || double.order a MAXF == some .eq))
    have hI : Infin 9218868437227405312 := ⟨by unfold fE P52; omega, by unfold fF P52; omega⟩
    have hIs : fS 9218868437227405312 = false := by unfold fS P63; rfl
    rcases word_cases (hs a rfl) with hf | hi
    · rw [order_fin hf hf, (order_inf (by omega) hI hf).2, hIs, order_fin T900_fin.1 hf, order_fin hf T900_fin.1, order_fin hf MAXF_fin, cmp_eq]
      have hm := max_ge hf
      rcases cmp_cases (fZ a) (fZ T900) with ⟨e, c⟩ | ⟨e, c⟩ | ⟨e, c⟩ <;> rcases cmp_cases (fZ T900) (fZ a) with ⟨e', c'⟩ | ⟨e', c'⟩ | ⟨e', c'⟩ <;> rcases cmp_cases (fZ a) (fZ MAXF) with ⟨e'', c''⟩ | ⟨e'', c''⟩ | ⟨e'', c''⟩ <;> first | omega | (rw [e, e', e'']; rfl)
    · rw [(order_inf (hs a rfl).1 hi T900_fin.1).2, (order_inf (hs a rfl).1 hi T900_fin.1).1, (order_inf (hs a rfl).1 hi MAXF_fin).1]
      have hr : double.order a 9218868437227405312 = some (if fS a then .lt else .eq) := by
        unfold Format.order
        rw [read_inf a (hs a rfl).1 hi.1 hi.2, read_inf 9218868437227405312 (by omega) hI.1 hI.2, hIs]
        cases fS a <;> rfl
      rw [hr]
      cases fS a <;> simp
end Go.Proofs.Ytknkakkdhihngaa
