/- Ratios as values: two flags and two lists of limbs, that mean two numbers; a block of four cells; digits don't lie in a block that holds none. -/
import Derived.Test.YtndcaajebomkhaaGreatDoorInt
namespace Go.Proofs.YtndcaajebomkhaaGreatDoor
open Go.RowKit

/-- A block of four cells, which may be written. -/
def Four (w : World) (b : Nat) (x y z u : Value) (T : TypeId) : Prop := w.heap[b]? = some (.cells #[x, y, z, u] T (0, 0))
section
variable {w w' : World} {b : Nat} {x y z u : Value} {T : TypeId}
theorem Four.lt (h : Four w b x y z u T) : b < w.heap.size := (Array.getElem?_eq_some_iff.1 h).1
theorem Four.c0 (h : Four w b x y z u T) : w.cell? ⟨b, 0, Option.none⟩ = some x := by unfold Four at h; simp [World.cell?, h]
theorem Four.c1 (h : Four w b x y z u T) : w.cell? ⟨b, 1, Option.none⟩ = some y := by unfold Four at h; simp [World.cell?, h]
theorem Four.c2 (h : Four w b x y z u T) : w.cell? ⟨b, 2, Option.none⟩ = some z := by unfold Four at h; simp [World.cell?, h]
theorem Four.c3 (h : Four w b x y z u T) : w.cell? ⟨b, 3, Option.none⟩ = some u := by unfold Four at h; simp [World.cell?, h]
theorem Four.free (h : Four w b x y z u T) (i : Nat) : w.frozen? ⟨b, i, Option.none⟩ = false := by unfold Four at h; simp [World.frozen?, h]
theorem Four.below {B : Nat} (h : Four w b x y z u T) (hb : Below B w w') (hB : b < B) : Four w' b x y z u T := by unfold Four; rw [hb.block b hB]; exact h
theorem Four.next (h : Four w b x y z u T) (hb : Below w.heap.size w w') : Four w' b x y z u T := h.below hb h.lt
theorem Four.drew (h : Four w b x y z u T) : Four w.drew b x y z u T := h
theorem Four.new (w : World) (x y z u : Value) (T : TypeId) : Four (w.alloc (.cells #[x, y, z, u] T)) w.heap.size x y z u T := by
  show (w.heap.push (.cells #[x, y, z, u] T))[w.heap.size]? = _
  simp
theorem Four.made {w : World} {b : Nat} {T : TypeId} (x y z u : Value) (hb : w.heap.size = b) : Four (w.alloc (.cells #[x, y, z, u] T)) b x y z u T := by subst hb; exact Four.new w x y z u T
theorem Four.alloc (h : Four w b x y z u T) (o : Obj) : Four (w.alloc o) b x y z u T := by
  show (w.heap.push o)[b]? = _
  rw [Array.getElem?_push_lt h.lt]
  exact (Array.getElem?_eq_getElem h.lt).symm.trans h
theorem Four.far {b' o : Nat} {v : Value} (h : Four w b x y z u T) (hne : b' ≠ b) : Four (w.setCell ⟨b', o, none⟩ v) b x y z u T := (Below.heap_setCell _ _ _ _ (fun e => hne e.symm)).trans h
theorem Four.set0 (h : Four w b x y z u T) (v : Value) : Four (w.setCell ⟨b, 0, Option.none⟩ v) b v y z u T := by
  have hlt := h.lt
  have h' : w.heap[b] = .cells #[x, y, z, u] T (0, 0) := by unfold Four at h; simpa [Array.getElem?_eq_getElem hlt] using h
  show (w.heap.modify b _)[b]? = _
  rw [Array.getElem?_eq_getElem (by simpa using hlt), Array.getElem_modify_self, h']
  rfl
theorem Four.set1 (h : Four w b x y z u T) (v : Value) : Four (w.setCell ⟨b, 1, Option.none⟩ v) b x v z u T := by
  have hlt := h.lt
  have h' : w.heap[b] = .cells #[x, y, z, u] T (0, 0) := by unfold Four at h; simpa [Array.getElem?_eq_getElem hlt] using h
  show (w.heap.modify b _)[b]? = _
  rw [Array.getElem?_eq_getElem (by simpa using hlt), Array.getElem_modify_self, h']
  rfl
theorem Four.set2 (h : Four w b x y z u T) (v : Value) : Four (w.setCell ⟨b, 2, Option.none⟩ v) b x y v u T := by
  have hlt := h.lt
  have h' : w.heap[b] = .cells #[x, y, z, u] T (0, 0) := by unfold Four at h; simpa [Array.getElem?_eq_getElem hlt] using h
  show (w.heap.modify b _)[b]? = _
  rw [Array.getElem?_eq_getElem (by simpa using hlt), Array.getElem_modify_self, h']
  rfl
theorem Four.set3 (h : Four w b x y z u T) (v : Value) : Four (w.setCell ⟨b, 3, Option.none⟩ v) b x y z v T := by
  have hlt := h.lt
  have h' : w.heap[b] = .cells #[x, y, z, u] T (0, 0) := by unfold Four at h; simpa [Array.getElem?_eq_getElem hlt] using h
  show (w.heap.modify b _)[b]? = _
  rw [Array.getElem?_eq_getElem (by simpa using hlt), Array.getElem_modify_self, h']
  rfl
end

/-- No digit lies in a block. -/
def NoInt (w : World) (g : Nat) : Prop := ∀ i k z, w.cell? ⟨g, i, none⟩ ≠ some (.int k z)
theorem Four.noInt {w : World} {b : Nat} {n n' : Bool} {p p' : Option Addr} {l c l' c' : Nat} {T : TypeId} (h : Four w b (.bool n) (.slice p l c) (.bool n') (.slice p' l' c') T) : NoInt w b := by
  intro i k z hc
  unfold Four at h
  simp only [World.cell?, h] at hc
  match i, hc with
  | 0, hc => simp at hc
  | 1, hc => simp at hc
  | 2, hc => simp at hc
  | 3, hc => simp at hc
  | i + 4, hc => simp at hc
theorem Rd.setX {k : IntKind} {β B : Nat} {w : World} {q : Option Addr} {m : Nat} {zs : List Nat} (h : Rd k β B w q m zs) {g : Nat} (hn : NoInt w g) (i : Nat) (u : Value) : Rd k β B (w.setCell ⟨g, i, Option.none⟩ u) q m zs :=
  ⟨h.count, h.word, fun j hj => by
    obtain ⟨b', off, h1, h2, h3⟩ := h.cell j hj
    exact ⟨b', off, h1, h2, ksc h3 (fun e => hn _ _ _ (show w.cell? ⟨g, off + j, Option.none⟩ = _ from by rw [show g = b' from e]; exact h3))⟩⟩
theorem Rd.set4 {k : IntKind} {β B : Nat} {w : World} {q : Option Addr} {m : Nat} {zs : List Nat} (h : Rd k β B w q m zs) {b : Nat} {n n' : Bool} {p p' : Option Addr} {l c l' c' : Nat} {T : TypeId}
    (ht : Four w b (.bool n) (.slice p l c) (.bool n') (.slice p' l' c') T) (i : Nat) (v : Value) : Rd k β B (w.setCell ⟨b, i, Option.none⟩ v) q m zs := h.setX ht.noInt i v

/-- A ratio lies at v in the world w: both parts plain. -/
def RatAt (w : World) (v : Value) (z d : Int) : Prop :=
  ∃ q m c q' m' c', v = .agg #[.bool (decide (z < 0)), .slice q m c, .bool (decide (d < 0)), .slice q' m' c'] ∧ m ≤ c ∧ m' ≤ c' ∧ Rd .u64 W64 w.heap.size w q m (digs W64 z.natAbs) ∧ Rd .u64 W64 w.heap.size w q' m' (digs W64 d.natAbs)
theorem RatAt.next {w w' : World} {v : Value} {z d : Int} (h : RatAt w v z d) (hb : Below w.heap.size w w') : RatAt w' v z d := by
  obtain ⟨q, m, c, q', m', c', h1, h2, h3, h4, h5⟩ := h
  exact ⟨q, m, c, q', m', c', h1, h2, h3, h4.next hb, h5.next hb⟩
/-- The values' parts as whole numbers. -/
theorem RatAt.parts {w : World} {v : Value} {z d : Int} (h : RatAt w v z d) : ∃ q m c q' m' c', v = .agg #[.bool (decide (z < 0)), .slice q m c, .bool (decide (d < 0)), .slice q' m' c'] ∧ m ≤ c ∧ m' ≤ c' ∧ Rd .u64 W64 w.heap.size w q m (digs W64 z.natAbs) ∧ Rd .u64 W64 w.heap.size w q' m' (digs W64 d.natAbs) ∧
    PlainAt w (.agg #[.bool (decide (z < 0)), .slice q m c]) z ∧ PlainAt w (.agg #[.bool (decide (d < 0)), .slice q' m' c']) d := by
  obtain ⟨q, m, c, q', m', c', h1, h2, h3, h4, h5⟩ := h
  exact ⟨q, m, c, q', m', c', h1, h2, h3, h4, h5, ⟨q, m, c, rfl, h2, h4⟩, ⟨q', m', c', rfl, h3, h5⟩⟩
theorem below_set4 {w W : World} {b : Nat} {i : Nat} {u : Value} (h : Below w.heap.size w W) (hb : w.heap.size ≤ b) : Below w.heap.size w (W.setCell ⟨b, i, none⟩ u) := ks h hb

/-- A ratio, stored into a call's own block. -/
def stored4 (W : World) (b : Nat) (x y z u : Value) : World := (((W.setCell ⟨b, 0, none⟩ x).setCell ⟨b, 1, none⟩ y).setCell ⟨b, 2, none⟩ z).setCell ⟨b, 3, none⟩ u
theorem Rd.stored4 {k : IntKind} {β B : Nat} {W : World} {q0 : Option Addr} {m0 : Nat} {zs : List Nat} (h : Rd k β B W q0 m0 zs) {b : Nat} {n n' n2 n3 : Bool} {p p' q q' : Option Addr} {l c l' c' m k2 m' k' : Nat} {T : TypeId} (ht : Four W b (.bool n) (.slice p l c) (.bool n') (.slice p' l' c') T) :
    Rd k β B (Proofs.YtndcaajebomkhaaGreatDoor.stored4 W b (.bool n2) (.slice q m k2) (.bool n3) (.slice q' m' k')) q0 m0 zs :=
  (((h.set4 ht 0 _).set4 (ht.set0 (.bool n2)) 1 _).set4 ((ht.set0 (.bool n2)).set1 (.slice q m k2)) 2 _).set4 (((ht.set0 (.bool n2)).set1 (.slice q m k2)).set2 (.bool n3)) 3 _
theorem RatAt.stored {W : World} {b : Nat} {n n' : Bool} {p p' q q' : Option Addr} {l c l' c' m k m' k' : Nat} {T : TypeId} {z d : Int} (ht : Four W b (.bool n) (.slice p l c) (.bool n') (.slice p' l' c') T) (hm : m ≤ k) (hm' : m' ≤ k')
    (h : Rd .u64 W64 W.heap.size W q m (digs W64 z.natAbs)) (h' : Rd .u64 W64 W.heap.size W q' m' (digs W64 d.natAbs)) :
    RatAt (stored4 W b (.bool (decide (z < 0))) (.slice q m k) (.bool (decide (d < 0))) (.slice q' m' k')) (.agg #[.bool (decide (z < 0)), .slice q m k, .bool (decide (d < 0)), .slice q' m' k']) z d :=
  ⟨q, m, k, q', m', k', rfl, hm, hm', (h.stored4 ht).mono (by simp [stored4]), (h'.stored4 ht).mono (by simp [stored4])⟩
theorem Four.stored {W : World} {b : Nat} {x y z u : Value} {T : TypeId} (h : Four W b x y z u T) (x' y' z' u' : Value) : Four (stored4 W b x' y' z' u') b x' y' z' u' T := (((h.set0 x').set1 y').set2 z').set3 u'
theorem below_stored {w W : World} {b : Nat} {x y z u : Value} (h : Below w.heap.size w W) (hb : w.heap.size ≤ b) : Below w.heap.size w (stored4 W b x y z u) := ks (ks (ks (ks h hb) hb) hb) hb

/-! What stays where one block alone may turn. -/
theorem grown_call {a W W' : World} {r : Option Nat} (h : a.grownBy W r) (hb : Below W.heap.size W W') : a.grownBy W' r := grown_trans h ⟨hb.os, hb.tape, hb.output, hb.size, fun i hi _ => hb.block i hi⟩
theorem grown_put {a W : World} {g : Nat} (h : a.grownBy W (some g)) (i : Nat) (v : Value) : a.grownBy (W.setCell ⟨g, i, none⟩ v) (some g) := grown_trans h (grown_set _ _ _ _)
theorem grown_put4 {a W : World} {g : Nat} {x y z u : Value} (h : a.grownBy W (some g)) : a.grownBy ((((W.setCell ⟨g, 0, none⟩ x).setCell ⟨g, 1, none⟩ y).setCell ⟨g, 2, none⟩ z).setCell ⟨g, 3, none⟩ u) (some g) := grown_put (grown_put (grown_put (grown_put h 0 _) 1 _) 2 _) 3 _
theorem ksc4 {W : World} {g b o : Nat} {v x y z u : Value} (h : W.cell? ⟨b, o, none⟩ = some v) (hne : b ≠ g) : ((((W.setCell ⟨g, 0, none⟩ x).setCell ⟨g, 1, none⟩ y).setCell ⟨g, 2, none⟩ z).setCell ⟨g, 3, none⟩ u).cell? ⟨b, o, none⟩ = some v :=
  ksc (ksc (ksc (ksc h (fun e => hne e.symm)) (fun e => hne e.symm)) (fun e => hne e.symm)) (fun e => hne e.symm)
theorem Rd.grownX {k : IntKind} {β : Nat} {w w' : World} {p : Option Addr} {len : Nat} {zs : List Nat} {g : Nat} (h : Rd k β w.heap.size w p len zs) (hn : NoInt w g) (hg : w.grownBy w' (some g)) : Rd k β w'.heap.size w' p len zs :=
  ⟨h.count, h.word, fun i hi => by
    obtain ⟨b, o, h1, h2, h3⟩ := h.cell i hi
    have hne : b ≠ g := fun e => hn _ _ _ (show w.cell? ⟨g, o + i, Option.none⟩ = _ from by rw [← e]; exact h3)
    refine ⟨b, o, h1, Nat.lt_of_lt_of_le h2 hg.size, ?_⟩
    have hh := hg.block b h2 (fun h => hne (by simp at h; omega))
    unfold World.cell? at h3 ⊢
    simp only at h3 ⊢
    rw [hh]; exact h3⟩

/-- .. in least terms: what num over den comes to. -/
def numOf (z d : Int) : Int := wv (decide (z < 0) != decide (d < 0)) (z.natAbs / Nat.gcd z.natAbs d.natAbs)
def denOf (z d : Int) : Int := ((d.natAbs / Nat.gcd z.natAbs d.natAbs : Nat) : Int)
theorem numOf_flags (n n' : Bool) (x y : Nat) (hy : 0 < y) : wv (n != n') (x / Nat.gcd x y) = numOf (wv n x) (wv n' y) := by
  unfold numOf
  rw [wv_abs, wv_abs]
  by_cases hx : x = 0
  · subst hx
    rw [Nat.zero_div, wv_zero, wv_zero]
  · rw [wv_neg, wv_neg, decide_eq_true (show 0 < x by omega), decide_eq_true hy, Bool.and_true, Bool.and_true]
theorem denOf_pos {z d : Int} (hd : d ≠ 0) : 0 < denOf z d := by
  unfold denOf
  have h1 : 0 < d.natAbs := by omega
  have := Nat.div_pos (Nat.le_of_dvd h1 (Nat.gcd_dvd_right z.natAbs d.natAbs)) (Nat.gcd_pos_of_pos_right _ h1)
  omega
theorem numOf_abs (z d : Int) : (numOf z d).natAbs = z.natAbs / Nat.gcd z.natAbs d.natAbs := by unfold numOf; rw [wv_abs]
theorem denOf_abs (z d : Int) : (denOf z d).natAbs = d.natAbs / Nat.gcd z.natAbs d.natAbs := by unfold denOf; rw [Int.natAbs_natCast]
theorem gcd_least {z d : Int} (hd : d ≠ 0) : Nat.gcd (numOf z d).natAbs (denOf z d).natAbs = 1 := by
  rw [numOf_abs, denOf_abs]
  exact Nat.coprime_div_gcd_div_gcd (Nat.gcd_pos_of_pos_right _ (by omega))
end Go.Proofs.YtndcaajebomkhaaGreatDoor
