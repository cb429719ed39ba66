/- Numbers as lists of digits over a base: their value, their canonical list, what is left without noughts at the top. No program is named here. -/
namespace Go.Proofs.Ytknkakkdhihngaa

/-- The digit at a place; 0 beyond. -/
def nth (zs : List Nat) (i : Nat) : Nat := zs.getD i 0

/-- The value of the first n digits. -/
def vl (β : Nat) (zs : List Nat) : Nat → Nat
  | 0 => 0
  | n + 1 => vl β zs n + nth zs n * β ^ n

/-- The value of all. -/
def val (β : Nat) (zs : List Nat) : Nat := vl β zs zs.length

/-- The digits of a number, the lowest first, without noughts at the top. -/
def digs (β : Nat) (n : Nat) : List Nat :=
  if _h : n = 0 ∨ β < 2 then [] else n % β :: digs β (n / β)
termination_by n
decreasing_by exact Nat.div_lt_self (by omega) (by omega)

theorem nth_nil (i : Nat) : nth [] i = 0 := by simp [nth]
theorem nth_cons_zero (z : Nat) (zs : List Nat) : nth (z :: zs) 0 = z := by simp [nth]
theorem nth_cons_succ (z : Nat) (zs : List Nat) (i : Nat) : nth (z :: zs) (i + 1) = nth zs i := by simp [nth]
theorem nth_past (zs : List Nat) (i : Nat) (h : zs.length ≤ i) : nth zs i = 0 := by simp [nth, List.getElem?_eq_none h]
theorem nth_lt (zs : List Nat) (i : Nat) (h : i < zs.length) : nth zs i = zs[i] := by simp [nth, h]
theorem nth_take (zs : List Nat) (k i : Nat) (h : i < k) : nth (zs.take k) i = nth zs i := by
  simp [nth, h]
theorem nth_drop (zs : List Nat) (k i : Nat) : nth (zs.drop k) i = nth zs (k + i) := by
  simp [nth, List.getElem?_drop]
theorem nth_append_lt (xs ys : List Nat) (i : Nat) (h : i < xs.length) : nth (xs ++ ys) i = nth xs i := by
  simp [nth, List.getElem?_append_left h]
theorem nth_append_ge (xs ys : List Nat) (i : Nat) (h : xs.length ≤ i) : nth (xs ++ ys) i = nth ys (i - xs.length) := by
  simp [nth, List.getElem?_append_right h]
theorem nth_snoc (xs : List Nat) (y i : Nat) (h : i = xs.length) : nth (xs ++ [y]) i = y := by
  subst h; simp [nth]
theorem ext_nth {xs ys : List Nat} (hl : xs.length = ys.length) (h : ∀ i, i < xs.length → nth xs i = nth ys i) : xs = ys := by
  apply List.ext_getElem hl
  intro i h1 h2
  have := h i h1
  rwa [nth_lt _ _ h1, nth_lt _ _ h2] at this

theorem vl_zero (β : Nat) (zs : List Nat) : vl β zs 0 = 0 := rfl
theorem vl_succ (β : Nat) (zs : List Nat) (n : Nat) : vl β zs (n + 1) = vl β zs n + nth zs n * β ^ n := rfl
theorem vl_congr {β : Nat} {xs ys : List Nat} {n : Nat} (h : ∀ i, i < n → nth xs i = nth ys i) : vl β xs n = vl β ys n := by
  induction n with
  | zero => rfl
  | succ n ih => rw [vl_succ, vl_succ, ih (fun i hi => h i (by omega)), h n (by omega)]
theorem vl_lt {β : Nat} (zs : List Nat) (n : Nat) (h : ∀ i, i < n → nth zs i < β) : vl β zs n < β ^ n := by
  induction n with
  | zero => simp [vl]
  | succ n ih =>
    rw [vl_succ, Nat.pow_succ]
    have h1 := ih (fun i hi => h i (by omega))
    have h2 : (nth zs n + 1) * β ^ n ≤ β * β ^ n := Nat.mul_le_mul_right _ (h n (by omega))
    rw [Nat.add_mul] at h2
    rw [Nat.mul_comm (β ^ n) β]
    omega
theorem vl_past {β : Nat} (zs : List Nat) (n : Nat) (h : zs.length ≤ n) : vl β zs n = val β zs := by
  induction n with
  | zero => unfold val; rw [show zs.length = 0 by omega]
  | succ n ih =>
    by_cases hn : zs.length ≤ n
    · rw [vl_succ, ih hn, nth_past _ _ hn]; simp
    · unfold val; rw [show zs.length = n + 1 by omega]
theorem vl_mono {β : Nat} (zs : List Nat) (m n : Nat) (h : m ≤ n) : vl β zs m ≤ vl β zs n := by
  induction n with
  | zero => rw [show m = 0 by omega]; exact Nat.le_refl _
  | succ n ih =>
    by_cases hm : m = n + 1
    · subst hm; exact Nat.le_refl _
    · rw [vl_succ]; have := ih (by omega); omega
theorem vl_add {β : Nat} (zs : List Nat) (m n : Nat) : vl β zs (m + n) = vl β zs m + β ^ m * vl β (zs.drop m) n := by
  induction n with
  | zero => simp [vl]
  | succ n ih =>
    rw [← Nat.add_assoc, vl_succ, ih, vl_succ, nth_drop, Nat.mul_add, Nat.pow_add, Nat.mul_left_comm, Nat.add_assoc]
theorem vl_cons {β : Nat} (z : Nat) (zs : List Nat) (n : Nat) : vl β (z :: zs) (n + 1) = z + β * vl β zs n := by
  rw [Nat.add_comm n 1, vl_add, vl_succ, vl_zero, nth_cons_zero]; simp
theorem val_cons {β : Nat} (z : Nat) (zs : List Nat) : val β (z :: zs) = z + β * val β zs := by
  unfold val; rw [List.length_cons, vl_cons]
theorem val_nil (β : Nat) : val β [] = 0 := rfl
theorem vl_le_val {β : Nat} (zs : List Nat) (n : Nat) : vl β zs n ≤ val β zs := by
  by_cases h : n ≤ zs.length
  · exact vl_mono _ _ _ h
  · rw [vl_past _ _ (by omega)]; exact Nat.le_refl _
theorem val_take {β : Nat} (zs : List Nat) (k : Nat) (h : k ≤ zs.length) : val β (zs.take k) = vl β zs k := by
  unfold val
  rw [List.length_take, Nat.min_eq_left h]
  exact vl_congr fun i hi => nth_take _ _ _ hi
theorem val_lt {β : Nat} (zs : List Nat) (h : ∀ i, i < zs.length → nth zs i < β) : val β zs < β ^ zs.length := vl_lt zs _ h
/-- The first n digits are what is left of the value. -/
theorem vl_mod {β : Nat} (zs : List Nat) (n : Nat) (h : ∀ i, i < n → nth zs i < β) : val β zs % β ^ n = vl β zs n := by
  have h1 := vl_lt zs n h
  have h2 : val β zs = vl β zs n + β ^ n * vl β (zs.drop n) zs.length := by
    rw [← vl_add, vl_past _ _ (by omega)]
  rw [h2, Nat.add_mul_mod_self_left, Nat.mod_eq_of_lt h1]
theorem val_div {β : Nat} (zs : List Nat) (n : Nat) (h : ∀ i, i < n → nth zs i < β) (hb : 0 < β) : val β zs / β ^ n = val β (zs.drop n) := by
  have h1 := vl_lt zs n h
  have h2 : val β zs = vl β zs n + β ^ n * val β (zs.drop n) := by
    rw [← vl_past (zs.drop n) zs.length (by simp), ← vl_add, vl_past _ _ (by omega)]
  rw [h2, Nat.add_mul_div_left _ _ (Nat.pow_pos hb), Nat.div_eq_of_lt h1, Nat.zero_add]

theorem digs_zero (β : Nat) : digs β 0 = [] := by rw [digs]; simp
theorem digs_pos {β n : Nat} (hb : 2 ≤ β) (h : 0 < n) : digs β n = n % β :: digs β (n / β) := by
  rw [digs, dif_neg (by omega)]
theorem val_digs {β : Nat} (hb : 2 ≤ β) (n : Nat) : val β (digs β n) = n := by
  induction n using Nat.strongRecOn with
  | _ n ih =>
    by_cases h : n = 0
    · subst h; rw [digs_zero]; rfl
    · rw [digs_pos hb (by omega), val_cons, ih _ (Nat.div_lt_self (by omega) (by omega))]
      have := Nat.div_add_mod n β
      omega
theorem digs_word {β : Nat} (hb : 2 ≤ β) (n i : Nat) : nth (digs β n) i < β := by
  induction n using Nat.strongRecOn generalizing i with
  | _ n ih =>
    by_cases h : n = 0
    · subst h; rw [digs_zero, nth_nil]; omega
    · rw [digs_pos hb (by omega)]
      cases i with
      | zero => rw [nth_cons_zero]; exact Nat.mod_lt _ (by omega)
      | succ i => rw [nth_cons_succ]; exact ih _ (Nat.div_lt_self (by omega) (by omega)) i
theorem digs_top {β : Nat} (hb : 2 ≤ β) (n : Nat) (h : 0 < n) : 0 < (digs β n).length ∧ nth (digs β n) ((digs β n).length - 1) ≠ 0 := by
  induction n using Nat.strongRecOn with
  | _ n ih =>
    rw [digs_pos hb h]
    refine ⟨by simp, ?_⟩
    by_cases h2 : n / β = 0
    · rw [h2, digs_zero]
      simp only [List.length_cons, List.length_nil, Nat.zero_add, Nat.sub_self, nth_cons_zero]
      have := Nat.div_add_mod n β
      rw [h2] at this
      omega
    · obtain ⟨h3, h4⟩ := ih (n / β) (Nat.div_lt_self (by omega) (by omega)) (Nat.pos_of_ne_zero h2)
      rw [List.length_cons, Nat.add_sub_cancel]
      obtain ⟨k, hk⟩ : ∃ k, (digs β (n / β)).length = k + 1 := ⟨(digs β (n / β)).length - 1, by omega⟩
      rw [hk, nth_cons_succ]
      rw [hk] at h4
      exact h4
theorem digs_length_pos {β : Nat} (hb : 2 ≤ β) (n : Nat) : (digs β n).length = 0 ↔ n = 0 := by
  constructor
  · intro h
    by_cases hn : n = 0
    · exact hn
    · have := (digs_top hb n (by omega)).1; omega
  · rintro rfl; rw [digs_zero]; rfl
/-- A list of digits without noughts at the top is that of its value. -/
theorem digs_of {β : Nat} (hb : 2 ≤ β) (zs : List Nat) (hw : ∀ i, i < zs.length → nth zs i < β) (ht : zs.length = 0 ∨ nth zs (zs.length - 1) ≠ 0) : zs = digs β (val β zs) := by
  induction zs with
  | nil => rw [val_nil, digs_zero]
  | cons z zs ih =>
    have hz : z < β := by have := hw 0 (by simp); rwa [nth_cons_zero] at this
    have hws : ∀ i, i < zs.length → nth zs i < β := fun i hi => by
      have := hw (i + 1) (by simp; omega)
      rwa [nth_cons_succ] at this
    rw [val_cons]
    by_cases hl : zs.length = 0
    · obtain rfl := List.eq_nil_of_length_eq_zero hl
      have h0 : z ≠ 0 := by
        rcases ht with ht | ht
        · simp at ht
        · simpa [nth] using ht
      rw [val_nil, Nat.mul_zero, Nat.add_zero, digs_pos hb (by omega), Nat.mod_eq_of_lt hz, Nat.div_eq_of_lt hz, digs_zero]
    · have ht2 : nth zs (zs.length - 1) ≠ 0 := by
        rcases ht with ht | ht
        · simp at ht
        · obtain ⟨k, hk⟩ : ∃ k, zs.length = k + 1 := ⟨zs.length - 1, by omega⟩
          rw [List.length_cons, Nat.add_sub_cancel, hk, nth_cons_succ] at ht
          rw [hk]; exact ht
      have e := ih hws (Or.inr ht2)
      have hv : 0 < val β zs := by
        by_cases h : val β zs = 0
        · rw [h, digs_zero] at e; subst e; simp at hl
        · omega
      have hp : 0 < β * val β zs := Nat.mul_pos (by omega) hv
      rw [digs_pos hb (by omega), Nat.add_mul_mod_self_left, Nat.mod_eq_of_lt hz, Nat.add_mul_div_left _ _ (by omega), Nat.div_eq_of_lt hz, Nat.zero_add, ← e]

/-- How many digits are left of the first n without the noughts at the top. -/
def tl (zs : List Nat) : Nat → Nat
  | 0 => 0
  | n + 1 => if nth zs n = 0 then tl zs n else n + 1
theorem tl_le (zs : List Nat) (n : Nat) : tl zs n ≤ n := by
  induction n with
  | zero => simp [tl]
  | succ n ih => unfold tl; split <;> omega
theorem tl_zero (zs : List Nat) : tl zs 0 = 0 := rfl
theorem tl_nought (zs : List Nat) (n : Nat) (h0 : 0 < n) (h : nth zs (n - 1) = 0) : tl zs n = tl zs (n - 1) := by
  obtain ⟨j, rfl⟩ : ∃ j, n = j + 1 := ⟨n - 1, by omega⟩
  rw [tl, if_pos (by simpa using h)]; rfl
theorem tl_top (zs : List Nat) (n : Nat) (h0 : 0 < n) (h : ¬ nth zs (n - 1) = 0) : tl zs n = n := by
  obtain ⟨j, rfl⟩ : ∃ j, n = j + 1 := ⟨n - 1, by omega⟩
  rw [tl, if_neg (by simpa using h)]
theorem tl_end (zs : List Nat) (n : Nat) : tl zs n = 0 ∨ nth zs (tl zs n - 1) ≠ 0 := by
  induction n with
  | zero => exact Or.inl rfl
  | succ n ih =>
    unfold tl; split
    · exact ih
    · right; simpa using by assumption
theorem vl_tl {β : Nat} (zs : List Nat) (n : Nat) : vl β zs (tl zs n) = vl β zs n := by
  induction n with
  | zero => rfl
  | succ n ih =>
    unfold tl; split
    · rename_i h; rw [ih, vl_succ, h]; simp
    · rfl
theorem take_tl {β : Nat} (hb : 2 ≤ β) (zs : List Nat) (n : Nat) (hn : n ≤ zs.length) (hw : ∀ i, i < n → nth zs i < β) : zs.take (tl zs n) = digs β (vl β zs n) := by
  have h1 := tl_le zs n
  have hlen : (zs.take (tl zs n)).length = tl zs n := by rw [List.length_take]; omega
  have := digs_of hb (zs.take (tl zs n)) (fun i hi => by rw [hlen] at hi; rw [nth_take _ _ _ hi]; exact hw i (by omega)) (by
    rcases tl_end zs n with h | h
    · left; rw [hlen, h]
    · by_cases h0 : tl zs n = 0
      · left; rw [hlen, h0]
      · right; rw [hlen, nth_take _ _ _ (by omega)]; exact h)
  rw [val_take _ _ (by omega), vl_tl] at this
  exact this
theorem tl_length {β : Nat} (hb : 2 ≤ β) (zs : List Nat) (n : Nat) (hn : n ≤ zs.length) (hw : ∀ i, i < n → nth zs i < β) : tl zs n = (digs β (vl β zs n)).length := by
  rw [← take_tl hb zs n hn hw, List.length_take]
  have := tl_le zs n
  omega
/-- How many digits a number has, by powers. -/
theorem digs_length_le {β : Nat} (hb : 2 ≤ β) (n k : Nat) : (digs β n).length ≤ k ↔ n < β ^ k := by
  induction k generalizing n with
  | zero =>
    rw [Nat.le_zero, digs_length_pos hb, Nat.pow_zero]; omega
  | succ k ih =>
    by_cases h : n = 0
    · subst h; rw [digs_zero]; simp; exact Nat.pow_pos (by omega)
    · rw [digs_pos hb (by omega), List.length_cons, Nat.succ_le_succ_iff, ih, Nat.pow_succ, Nat.div_lt_iff_lt_mul (by omega)]
theorem digs_lt_length {β : Nat} (hb : 2 ≤ β) (n k : Nat) : k < (digs β n).length ↔ β ^ k ≤ n := by
  have := digs_length_le hb n k
  omega
theorem digs_inj {β : Nat} (hb : 2 ≤ β) {m n : Nat} (h : digs β m = digs β n) : m = n := by
  rw [← val_digs hb m, h, val_digs hb n]

theorem nth_replicate (n z i : Nat) : nth (List.replicate n z) i = if i < n then z else 0 := by
  unfold nth
  rw [List.getD_eq_getElem?_getD, List.getElem?_replicate]
  split <;> rfl
theorem vl_replicate (β n m : Nat) : vl β (List.replicate n 0) m = 0 := by
  induction m with
  | zero => rfl
  | succ m ih => rw [vl_succ, ih, nth_replicate]; split <;> simp

end Go.Proofs.Ytknkakkdhihngaa
