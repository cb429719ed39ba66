/- Whole numbers as values: a flag and limbs, in whatever memory, that mean a number; plain ones; what stays when a call makes memory. -/
import Derived.Test.YtknkakkdhihngaaNatC
import Derived.Deep.RegionHeld3
namespace Go.Proofs.Ytknkakkdhihngaa
open Go.RowKit

/-- The number of a flag and a size. -/
def wv (n : Bool) (x : Nat) : Int := if n then -(x : Int) else x
theorem wv_true (x : Nat) : wv true x = -(x : Int) := rfl
theorem wv_false (x : Nat) : wv false x = x := rfl
theorem wv_abs (n : Bool) (x : Nat) : (wv n x).natAbs = x := by cases n <;> simp [wv]
theorem wv_neg (n : Bool) (x : Nat) : decide (wv n x < 0) = (n && decide (0 < x)) := by
  cases n
  · simp [wv]
  · simp only [wv, if_true, Bool.true_and, decide_eq_decide]; omega
theorem wv_self (z : Int) : wv (decide (z < 0)) z.natAbs = z := by
  by_cases h : z < 0
  · rw [decide_eq_true h, wv_true]; omega
  · rw [decide_eq_false h, wv_false]; omega
theorem wv_not (n : Bool) (x : Nat) : wv (!n) x = -wv n x := by cases n <;> simp [wv]

/-- What lies in old memory reads as it did. -/
theorem bcell {B : Nat} {W w1 : World} (hb : Below B W w1) : (∀ b o, b < B → w1.cell? ⟨b, o, none⟩ = W.cell? ⟨b, o, none⟩) ∧ (∀ b o, b < B → w1.frozen? ⟨b, o, none⟩ = W.frozen? ⟨b, o, none⟩) :=
  ⟨fun b o h => hb.cell (p := ⟨b, o, none⟩) h, fun b o h => hb.frozen (p := ⟨b, o, none⟩) h⟩

/-- For a region that draws its order: what is held of the world goes on behind a call that makes memory, and behind a draw. -/
theorem kp {W W' : World} {a : Addr} {x : Value} (hb : Below W.heap.size W W') (h : W.cell? a = some x) : W'.cell? a = some x := by
  rw [hb.cell (p := a) (World.block_lt_of_cell? W a h)]; exact h
theorem kb {B : Nat} {W0 W W' : World} (hb : Below W.heap.size W W') (h : Below B W0 W) (hB : B ≤ W0.heap.size) : Below B W0 W' := h.trans (hb.mono (Nat.le_trans hB h.size))
theorem kd {B : Nat} {W0 W : World} (h : Below B W0 W) : Below B W0 W.drew := ⟨h.os, h.tape, h.output, h.size, h.block⟩
theorem kd0 {B : Nat} {W0 : World} : Below B W0 W0.drew := kd (Below.refl _ _)
theorem kdc {W : World} {a : Addr} {x : Value} (h : W.cell? a = some x) : W.drew.cell? a = some x := h

theorem ks {B : Nat} {W0 W : World} {a : Addr} {v : Value} (h : Below B W0 W) (ha : B ≤ a.block) : Below B W0 (W.setCell a v) := h.setCell ha v
theorem ksc {W : World} {a p : Addr} {v x : Value} (h : W.cell? p = some x) (ha : a.block ≠ p.block) : (W.setCell a v).cell? p = some x := by
  rw [World.cell?_setCell_far _ _ _ _ ha]; exact h

theorem kal {W : World} {p : Addr} {x : Value} {o : Obj} (h : W.cell? p = some x) : (W.alloc o).cell? p = some x := by
  rw [World.cell?_alloc_some _ _ _ (by rw [h]; rfl)]; exact h

/-- A block of two cells, which may be written. -/
def Two (w : World) (b : Nat) (x y : Value) (T : TypeId) : Prop := w.heap[b]? = some (.cells #[x, y] T (0, 0))
section
variable {w w' : World} {b : Nat} {x y : Value} {T : TypeId}
theorem Two.far {b' o : Nat} {u : Value} (h : Two w b x y T) (hne : b' ≠ b) : Two (w.setCell ⟨b', o, none⟩ u) b x y T := (Below.heap_setCell _ _ _ _ (fun e => hne e.symm)).trans h
theorem Two.lt (h : Two w b x y T) : b < w.heap.size := (Array.getElem?_eq_some_iff.1 h).1
theorem Two.c0 (h : Two w b x y T) : w.cell? ⟨b, 0, Option.none⟩ = some x := by unfold Two at h; simp [World.cell?, h]
theorem Two.c1 (h : Two w b x y T) : w.cell? ⟨b, 1, Option.none⟩ = some y := by unfold Two at h; simp [World.cell?, h]
theorem Two.f0 (h : Two w b x y T) : w.frozen? ⟨b, 0, Option.none⟩ = false := by unfold Two at h; simp [World.frozen?, h]
theorem Two.f1 (h : Two w b x y T) : w.frozen? ⟨b, 1, Option.none⟩ = false := by unfold Two at h; simp [World.frozen?, h]
theorem Two.below {B : Nat} (h : Two w b x y T) (hb : Below B w w') (hB : b < B) : Two w' b x y T := by unfold Two; rw [hb.block b hB]; exact h
theorem Two.next (h : Two w b x y T) (hb : Below w.heap.size w w') : Two w' b x y T := h.below hb h.lt
theorem Two.drew (h : Two w b x y T) : Two w.drew b x y T := h
theorem Two.new (w : World) (x y : Value) (T : TypeId) : Two (w.alloc (.cells #[x, y] T)) w.heap.size x y T := by
  show (w.heap.push (.cells #[x, y] T))[w.heap.size]? = _
  simp
theorem Two.made {w : World} {b : Nat} {T : TypeId} (x y : Value) (hb : w.heap.size = b) : Two (w.alloc (.cells #[x, y] T)) b x y T := by subst hb; exact Two.new w x y T
theorem Two.alloc (h : Two w b x y T) (o : Obj) : Two (w.alloc o) b x y T := by
  show (w.heap.push o)[b]? = _
  rw [Array.getElem?_push_lt h.lt]
  exact (Array.getElem?_eq_getElem h.lt).symm.trans h
theorem Two.set0 (h : Two w b x y T) (u : Value) : Two (w.setCell ⟨b, 0, Option.none⟩ u) b u y T := by
  have hlt := h.lt
  have h' : w.heap[b] = .cells #[x, y] T (0, 0) := by unfold Two at h; simpa [Array.getElem?_eq_getElem hlt] using h
  show (w.heap.modify b _)[b]? = _
  rw [Array.getElem?_eq_getElem (by simpa using hlt), Array.getElem_modify_self, h']
  rfl
theorem Two.set1 (h : Two w b x y T) (u : Value) : Two (w.setCell ⟨b, 1, Option.none⟩ u) b x u T := by
  have hlt := h.lt
  have h' : w.heap[b] = .cells #[x, y] T (0, 0) := by unfold Two at h; simpa [Array.getElem?_eq_getElem hlt] using h
  show (w.heap.modify b _)[b]? = _
  rw [Array.getElem?_eq_getElem (by simpa using hlt), Array.getElem_modify_self, h']
  rfl
end

/-- Digits don't lie in a block of a flag and a slice. -/
theorem Two.other {w : World} {b : Nat} {n : Bool} {p : Option Addr} {l c : Nat} {T : TypeId} (ht : Two w b (.bool n) (.slice p l c) T) {b' i : Nat} {k : IntKind} {z : Int}
    (h : w.cell? ⟨b', i, none⟩ = some (.int k z)) : b ≠ b' := by
  rintro rfl
  unfold Two at ht
  simp only [World.cell?, ht] at h
  match i, h with
  | 0, h => simp at h
  | 1, h => simp at h
  | i + 2, h => simp at h
theorem Rd.set2 {k : IntKind} {β B : Nat} {w : World} {q : Option Addr} {m : Nat} {zs : List Nat} (h : Rd k β B w q m zs) {b : Nat} {n : Bool} {p : Option Addr} {l c : Nat} {T : TypeId}
    (ht : Two w b (.bool n) (.slice p l c) T) (u v : Value) : Rd k β B ((w.setCell ⟨b, 0, Option.none⟩ u).setCell ⟨b, 1, Option.none⟩ v) q m zs :=
  ⟨h.count, h.word, fun i hi => by
    obtain ⟨b', off, h1, h2, h3⟩ := h.cell i hi
    exact ⟨b', off, h1, h2, ksc (ksc h3 (ht.other h3)) (ht.other h3)⟩⟩

theorem below_set2 {w W : World} {b : Nat} {u v : Value} (h : Below w.heap.size w W) (hb : w.heap.size ≤ b) : Below w.heap.size w ((W.setCell ⟨b, 0, none⟩ u).setCell ⟨b, 1, none⟩ v) := ks (ks h hb) hb
/-- The blocks of a call's own variables of two cells, as it begins. -/
theorem enter1 (w : World) (x y : Value) (T : TypeId) : ∃ W, W = w.alloc (.cells #[x, y] T) ∧ Below w.heap.size w W ∧ Two W w.heap.size x y T :=
  ⟨_, rfl, (Below.refl _ _).alloc (Nat.le_refl _) _, Two.new _ _ _ _⟩
theorem enter2 (w : World) (x y : Value) (T : TypeId) (x2 y2 : Value) (T2 : TypeId) : ∃ W, W = (w.alloc (.cells #[x, y] T)).alloc (.cells #[x2, y2] T2) ∧ Below w.heap.size w W ∧ Two W w.heap.size x y T ∧ Two W (w.heap.size + 1) x2 y2 T2 :=
  ⟨_, rfl, ((Below.refl _ _).alloc (Nat.le_refl _) _).alloc (by simp) _, (Two.new _ _ _ _).alloc _, Two.made _ _ (by simp)⟩
theorem enter3 (w : World) (x y : Value) (T : TypeId) (x2 y2 : Value) (T2 : TypeId) (x3 y3 : Value) (T3 : TypeId) : ∃ W, W = ((w.alloc (.cells #[x, y] T)).alloc (.cells #[x2, y2] T2)).alloc (.cells #[x3, y3] T3) ∧ Below w.heap.size w W ∧
    Two W w.heap.size x y T ∧ Two W (w.heap.size + 1) x2 y2 T2 ∧ Two W (w.heap.size + 2) x3 y3 T3 :=
  ⟨_, rfl, (((Below.refl _ _).alloc (Nat.le_refl _) _).alloc (by simp) _).alloc (by simp; omega) _, ((Two.new _ _ _ _).alloc _).alloc _, (Two.made _ _ (by simp)).alloc _, Two.made _ _ (by simp)⟩

theorem Rd.setF {k : IntKind} {β B : Nat} {w : World} {q : Option Addr} {m : Nat} {zs : List Nat} (h : Rd k β B w q m zs) {b : Nat} {n : Bool} {p : Option Addr} {l c : Nat} {T : TypeId}
    (ht : Two w b (.bool n) (.slice p l c) T) (u : Value) : Rd k β B (w.setCell ⟨b, 0, Option.none⟩ u) q m zs :=
  ⟨h.count, h.word, fun i hi => by
    obtain ⟨b', off, h1, h2, h3⟩ := h.cell i hi
    exact ⟨b', off, h1, h2, ksc h3 (ht.other h3)⟩⟩

/-- A number with a sign lies at v in the world w: its flag, at most L limbs, any; it means z. -/
def IntAt (w : World) (v : Value) (L : Nat) (z : Int) : Prop :=
  ∃ n q m c xs, v = .agg #[.bool n, .slice q m c] ∧ m ≤ c ∧ m ≤ L ∧ Rd .u64 W64 w.heap.size w q m xs ∧ wv n (val W64 xs) = z
/-- .. and it is plain. -/
def PlainAt (w : World) (v : Value) (z : Int) : Prop :=
  ∃ q m c, v = .agg #[.bool (decide (z < 0)), .slice q m c] ∧ m ≤ c ∧ Rd .u64 W64 w.heap.size w q m (digs W64 z.natAbs)
/-- A plain number comes back; what was there stays. -/
def GivesInt (w : World) (z : Int) (e : Ending) (w' : World) : Prop := ∃ v, e = .returned v ∧ PlainAt w' v z ∧ Below w.heap.size w w'

theorem PlainAt.set2 {W : World} {b : Nat} {n : Bool} {p : Option Addr} {l c : Nat} {T : TypeId} {z : Int} {q : Option Addr} {m k : Nat} (hm : m ≤ k) (h : Rd .u64 W64 W.heap.size W q m (digs W64 z.natAbs)) (ht : Two W b (.bool n) (.slice p l c) T) (u v : Value) :
    PlainAt ((W.setCell ⟨b, 0, none⟩ u).setCell ⟨b, 1, none⟩ v) (.agg #[.bool (decide (z < 0)), .slice q m k]) z := ⟨q, m, k, rfl, hm, (h.set2 ht u v).mono (by simp)⟩
/-- .. beside nil error. -/
def GivesInt2 (w : World) (z : Int) (e : Ending) (w' : World) : Prop := ∃ v, e = .returned (.tuple #[v, .nilIface]) ∧ PlainAt w' v z ∧ Below w.heap.size w w'
/-- A number of the document's own answers for layer 2: always plain. -/
def NumAt (w : World) (v : Value) (z : Int) : Prop :=
  ∃ q m c, v = .agg #[.bool (decide (z < 0)), .slice q m c] ∧ m ≤ c ∧ Rd .u32 65536 w.heap.size w q m (digs 65536 z.natAbs)
def GivesNum (w : World) (z : Int) (e : Ending) (w' : World) : Prop := ∃ v, e = .returned v ∧ NumAt w' v z ∧ Below w.heap.size w w'
theorem NumAt.next {w w' : World} {v : Value} {z : Int} (h : NumAt w v z) (hb : Below w.heap.size w w') : NumAt w' v z := by
  obtain ⟨q, m, c, h1, h2, h3⟩ := h
  exact ⟨q, m, c, h1, h2, h3.next hb⟩
theorem NumAt.set2 {W : World} {b : Nat} {n : Bool} {p : Option Addr} {l c : Nat} {T : TypeId} {z : Int} {q : Option Addr} {m k : Nat} (hm : m ≤ k) (h : Rd .u32 65536 W.heap.size W q m (digs 65536 z.natAbs)) (ht : Two W b (.bool n) (.slice p l c) T) (u v : Value) :
    NumAt ((W.setCell ⟨b, 0, none⟩ u).setCell ⟨b, 1, none⟩ v) (.agg #[.bool (decide (z < 0)), .slice q m k]) z := ⟨q, m, k, rfl, hm, (h.set2 ht u v).mono (by simp)⟩
/-- How many digits of 16 bits. -/
theorem num_len {z : Int} {L k : Nat} (h : z.natAbs < W64 ^ L) (hk : k = 4 * L) : (digs 65536 z.natAbs).length ≤ k := by
  subst hk
  refine (digs_length_le (by omega) _ _).2 ?_
  have e : W64 = 65536 ^ 4 := by unfold W64; decide
  rwa [Nat.pow_mul, ← e]
theorem IntAt.next {w w' : World} {v : Value} {L : Nat} {z : Int} (h : IntAt w v L z) (hb : Below w.heap.size w w') : IntAt w' v L z := by
  obtain ⟨n, q, m, c, xs, h1, h2, h3, h4, h5⟩ := h
  exact ⟨n, q, m, c, xs, h1, h2, h3, h4.next hb, h5⟩
theorem PlainAt.next {w w' : World} {v : Value} {z : Int} (h : PlainAt w v z) (hb : Below w.heap.size w w') : PlainAt w' v z := by
  obtain ⟨q, m, c, h1, h2, h3⟩ := h
  exact ⟨q, m, c, h1, h2, h3.next hb⟩
theorem PlainAt.int {w : World} {v : Value} {z : Int} {L : Nat} (h : PlainAt w v z) (hz : z.natAbs < W64 ^ L) : IntAt w v L z := by
  obtain ⟨q, m, c, h1, h2, h3⟩ := h
  exact ⟨_, q, m, c, _, h1, h2, h3.short two_le_W64 hz, h3, by rw [val_digs two_le_W64, wv_self]⟩
theorem IntAt.abs_lt {w : World} {v : Value} {L : Nat} {z : Int} (h : IntAt w v L z) : z.natAbs < W64 ^ L := by
  obtain ⟨n, q, m, c, xs, h1, h2, h3, h4, h5⟩ := h
  rw [← h5, wv_abs]; exact h4.val_lt W64_pos h3
theorem Rd.digs_size {k : IntKind} {B : Nat} {w : World} {p : Option Addr} {len : Nat} {zs : List Nat} (h : Rd k W64 B w p len zs) : (digs W64 (val W64 zs)).length ≤ len :=
  (digs_length_le two_le_W64 _ _).2 (h.val_lt W64_pos (Nat.le_refl _))
theorem IntAt.mono {w : World} {v : Value} {L L' : Nat} {z : Int} (h : IntAt w v L z) (hL : L ≤ L') : IntAt w v L' z := by
  obtain ⟨n, q, m, c, xs, h1, h2, h3, h4, h5⟩ := h
  exact ⟨n, q, m, c, xs, h1, h2, by omega, h4, h5⟩
theorem cmpN_sign (x y : Nat) : cmpN x y = ((x : Int) - y).sign := by
  unfold cmpN; split
  · exact (Int.sign_eq_neg_one_of_neg (by omega)).symm
  · split
    · exact (Int.sign_eq_one_of_pos (by omega)).symm
    · rw [show (x : Int) - y = 0 by omega, Int.sign_zero]
theorem wv_sign (n : Bool) (x : Nat) : (wv n x).sign = if x = 0 then 0 else if n then -1 else 1 := by
  split
  · rename_i h; subst h; cases n <;> simp [wv]
  · cases n
    · rw [wv_false]; exact Int.sign_eq_one_of_pos (by omega)
    · rw [wv_true]; exact Int.sign_eq_neg_one_of_neg (by omega)
theorem sign_bd (z : Int) : -1 ≤ z.sign ∧ z.sign ≤ 1 := by
  rcases Int.lt_trichotomy z 0 with h | h | h
  · rw [Int.sign_eq_neg_one_of_neg h]; omega
  · rw [h, Int.sign_zero]; omega
  · rw [Int.sign_eq_one_of_pos h]; omega
theorem wv_zero (n : Bool) : wv n 0 = 0 := by cases n <;> rfl
theorem sign_cases (z : Int) : z < 0 ∧ z.sign = -1 ∨ z = 0 ∧ z.sign = 0 ∨ 0 < z ∧ z.sign = 1 := by
  rcases Int.lt_trichotomy z 0 with h | h | h
  · exact Or.inl ⟨h, Int.sign_eq_neg_one_of_neg h⟩
  · exact Or.inr (Or.inl ⟨h, by rw [h, Int.sign_zero]⟩)
  · exact Or.inr (Or.inr ⟨h, Int.sign_eq_one_of_pos h⟩)
theorem sign_ne {z z' : Int} (h : ¬ z.sign = z'.sign) : (z.sign - z'.sign).sign = (z - z').sign := by
  have h1 := sign_cases z
  have h2 := sign_cases z'
  have h3 := sign_cases (z - z')
  have h4 := sign_cases (z.sign - z'.sign)
  omega
theorem sign_same_neg {n n' : Bool} {x y : Nat} (h : (wv n x).sign = (wv n' y).sign) (hn : (wv n x).sign < 0) : cmpN y x = (wv n x - wv n' y).sign := by
  have h1 := sign_cases (wv n x)
  have h2 := sign_cases (wv n' y)
  cases n <;> cases n' <;> simp only [wv_true, wv_false] at * <;> first | omega | (rw [cmpN_sign]; congr 1; omega)
theorem sign_same_pos {n n' : Bool} {x y : Nat} (h : (wv n x).sign = (wv n' y).sign) (hn : ¬ (wv n x).sign < 0) : cmpN x y = (wv n x - wv n' y).sign := by
  have h1 := sign_cases (wv n x)
  have h2 := sign_cases (wv n' y)
  cases n <;> cases n' <;> simp only [wv_true, wv_false] at * <;> first | (rw [cmpN_sign]; done) | (rw [cmpN_sign]; congr 1; omega)
theorem wv_add (n : Bool) (x y : Nat) : wv n (x + y) = wv n x + wv n y := by cases n <;> simp only [wv_true, wv_false] <;> omega
theorem wv_sub (n : Bool) (x y : Nat) (h : y ≤ x) : wv n (x - y) = wv n x + wv (!n) y := by cases n <;> simp only [wv_true, wv_false, Bool.not_true, Bool.not_false] <;> omega
theorem wv_sub' (n : Bool) (x y : Nat) (h : x ≤ y) : wv (!n) (y - x) = wv n x + wv (!n) y := by cases n <;> simp only [wv_true, wv_false, Bool.not_true, Bool.not_false] <;> omega
theorem wv_mul (n n' : Bool) (x y : Nat) : wv (n != n') (x * y) = wv n x * wv n' y := by
  cases n <;> cases n' <;> simp [wv, Int.neg_mul, Int.mul_neg]
theorem cmpN_ge {x y : Nat} (h : ¬ cmpN x y < 0) : y ≤ x := by
  unfold cmpN at h; split at h <;> first | omega | (split at h <;> omega)
theorem cmpN_lt' {x y : Nat} (h : cmpN x y < 0) : x < y := by
  unfold cmpN at h; split at h <;> first | omega | (split at h <;> omega)
theorem Rd.add_size {B1 B2 : Nat} {w : World} {p1 p2 : Option Addr} {l1 l2 L : Nat} {xs ys : List Nat} (r1 : Rd .u64 W64 B1 w p1 l1 xs) (r2 : Rd .u64 W64 B2 w p2 l2 ys) (h1 : l1 ≤ L) (h2 : l2 ≤ L) :
    (digs W64 (val W64 xs + val W64 ys)).length ≤ L + 1 := by
  refine (digs_length_le two_le_W64 _ _).2 ?_
  have a1 := r1.val_lt W64_pos h1
  have a2 := r2.val_lt W64_pos h2
  have a3 : 2 * W64 ^ L ≤ W64 ^ (L + 1) := by rw [Nat.pow_succ, Nat.mul_comm]; exact Nat.mul_le_mul_left _ two_le_W64
  omega
theorem digs_sum_len {β x y t L : Nat} (hb : 2 ≤ β) (hx : (digs β x).length ≤ L) (hy : (digs β y).length ≤ L) (ht : t ≤ x + y) : (digs β t).length ≤ L + 1 := by
  refine (digs_length_le hb _ _).2 ?_
  have a1 := (digs_length_le hb _ _).1 hx
  have a2 := (digs_length_le hb _ _).1 hy
  have a3 : 2 * β ^ L ≤ β ^ (L + 1) := by rw [Nat.pow_succ, Nat.mul_comm]; exact Nat.mul_le_mul_left _ hb
  omega
theorem digs_prod_len {β x y L M : Nat} (hb : 2 ≤ β) (hx : (digs β x).length ≤ L) (hy : (digs β y).length ≤ M) : (digs β (x * y)).length ≤ L + M := by
  refine (digs_length_le hb _ _).2 ?_
  rw [Nat.pow_add]
  exact Nat.mul_lt_mul'' ((digs_length_le hb _ _).1 hx) ((digs_length_le hb _ _).1 hy)
theorem digs_shl_len {β x k j L : Nat} (hb : 2 ≤ β) (hk : 2 ^ k ≤ β ^ j) (hx : (digs β x).length ≤ L) : (digs β (x * 2 ^ k)).length ≤ L + j := by
  refine (digs_length_le hb _ _).2 ?_
  rw [Nat.pow_add]
  have a1 := (digs_length_le hb _ _).1 hx
  calc x * 2 ^ k < β ^ L * 2 ^ k := Nat.mul_lt_mul_of_pos_right a1 (Nat.pow_pos (by omega))
    _ ≤ β ^ L * β ^ j := Nat.mul_le_mul_left _ hk
theorem wv_times (n : Bool) (x k : Nat) : wv n (x * 2 ^ k) = wv n x * 2 ^ k := by cases n <;> simp [wv, Int.neg_mul]
theorem digs_le_len {x y : Nat} (h : x ≤ y) : (digs W64 x).length ≤ (digs W64 y).length := by
  refine (digs_length_le two_le_W64 _ _).2 (Nat.lt_of_le_of_lt h ((digs_length_le two_le_W64 _ _).1 (Nat.le_refl _)))
theorem PlainAt.ints {w : World} {v : Value} {z : Int} {L : Nat} (h : PlainAt w v z) (hl : (digs W64 z.natAbs).length ≤ L) : IntAt w v L z := by
  obtain ⟨q, m, c, h1, h2, h3⟩ := h
  exact ⟨_, q, m, c, _, h1, h2, by rw [← h3.count]; exact hl, h3, by rw [val_digs two_le_W64, wv_self]⟩
theorem len_of {z : Int} {k L : Nat} (h : z.natAbs < W64 ^ k) (hk : k ≤ L) : (digs W64 z.natAbs).length ≤ L := Nat.le_trans ((digs_length_le two_le_W64 _ _).2 h) hk
theorem abs_add {x y : Int} {k : Nat} (hx : x.natAbs < W64 ^ k) (hy : y.natAbs < W64 ^ k) : (x + y).natAbs < W64 ^ (k + 1) := by
  have a3 : 2 * W64 ^ k ≤ W64 ^ (k + 1) := by rw [Nat.pow_succ, Nat.mul_comm]; exact Nat.mul_le_mul_left _ two_le_W64
  omega
theorem abs_sub {x y : Int} {k : Nat} (hx : x.natAbs < W64 ^ k) (hy : y.natAbs < W64 ^ k) : (x - y).natAbs < W64 ^ (k + 1) := by
  have a3 : 2 * W64 ^ k ≤ W64 ^ (k + 1) := by rw [Nat.pow_succ, Nat.mul_comm]; exact Nat.mul_le_mul_left _ two_le_W64
  omega
theorem abs_mul {x y : Int} {k l : Nat} (hx : x.natAbs < W64 ^ k) (hy : y.natAbs < W64 ^ l) : (x * y).natAbs < W64 ^ (k + l) := by
  rw [Int.natAbs_mul, Nat.pow_add]; exact Nat.mul_lt_mul'' hx hy
theorem abs_neg {x : Int} {k : Nat} (hx : x.natAbs < W64 ^ k) : (-x).natAbs < W64 ^ k := by rwa [Int.natAbs_neg]
/-- A plain number as it lies in a variable. -/
theorem PlainAt.parts {w : World} {v : Value} {z : Int} (h : PlainAt w v z) : ∃ q m c, v = .agg #[.bool (decide (z < 0)), .slice q m c] := by
  obtain ⟨q, m, c, h1, _⟩ := h
  exact ⟨q, m, c, h1⟩
theorem NumAt.parts {w : World} {v : Value} {z : Int} (h : NumAt w v z) : ∃ q m c, v = .agg #[.bool (decide (z < 0)), .slice q m c] := by
  obtain ⟨q, m, c, h1, _⟩ := h
  exact ⟨q, m, c, h1⟩
/-- What is known goes on behind the making of a variable, and behind a store into a variable of a flag and a slice. -/
theorem alloc_size (W : World) (o : Obj) : (W.alloc o).heap.size = W.heap.size + 1 := by simp
theorem drew_size (W : World) : W.drew.heap.size = W.heap.size := rfl
theorem bal {W : World} {o : Obj} : Below W.heap.size W (W.alloc o) := (Below.refl _ _).alloc (Nat.le_refl _) _
section
variable {W : World} {g : Nat} {n : Bool} {p : Option Addr} {l c : Nat} {T : TypeId} {u u' v : Value} {z : Int}
theorem IntAt.put {L : Nat} (h : IntAt W v L z) (t : Two W g (.bool n) (.slice p l c) T) : IntAt ((W.setCell ⟨g, 0, none⟩ u).setCell ⟨g, 1, none⟩ u') v L z := by
  obtain ⟨n', q, m, c', xs, h1, h2, h3, h4, h5⟩ := h
  exact ⟨n', q, m, c', xs, h1, h2, h3, (h4.set2 t u u').mono (by simp), h5⟩
theorem PlainAt.put (h : PlainAt W v z) (t : Two W g (.bool n) (.slice p l c) T) : PlainAt ((W.setCell ⟨g, 0, none⟩ u).setCell ⟨g, 1, none⟩ u') v z := by
  obtain ⟨q, m, c', h1, h2, h3⟩ := h
  exact ⟨q, m, c', h1, h2, (h3.set2 t u u').mono (by simp)⟩
theorem NumAt.put (h : NumAt W v z) (t : Two W g (.bool n) (.slice p l c) T) : NumAt ((W.setCell ⟨g, 0, none⟩ u).setCell ⟨g, 1, none⟩ u') v z := by
  obtain ⟨q, m, c', h1, h2, h3⟩ := h
  exact ⟨q, m, c', h1, h2, (h3.set2 t u u').mono (by simp)⟩
theorem Two.put {b : Nat} {x y : Value} {T' : TypeId} (h : Two W b x y T') (hne : g ≠ b) : Two ((W.setCell ⟨g, 0, none⟩ u).setCell ⟨g, 1, none⟩ u') b x y T' := (h.far hne).far hne
theorem Two.puts (h : Two W g (.bool n) (.slice p l c) T) : Two ((W.setCell ⟨g, 0, none⟩ u).setCell ⟨g, 1, none⟩ u') g u u' T := (h.set0 u).set1 u'
end
end Go.Proofs.Ytknkakkdhihngaa
