/- What memory holds: slices of numbers that are read (Rd), rows that the call itself made and writes (Row), and the laws of append over these. No program is named here. -/
import Derived.Test.YtknkakkdhihngaaNum
import Derived.WalkKit
import Derived.Lib.Hide
import Derived.Laws.AppendOwnNone
import Derived.ArgAppend
import Derived.Laws.OwnMore
import Derived.Deep.QuietTactic
namespace Go.Proofs.Ytknkakkdhihngaa
open Go.RowKit

/-- A quiet callee, met where draws have gone before. -/
theorem quiet_more {P : Program} {f : FuncId} {args : Array Value} {w : World} {a n : Nat} {v : Value}
    (h : Calls P f args (w.drewN (a + n)) fun e w' => e = .returned v ∧ w.drewN (a + n) = w') : Calls P f args (w.drewN (a + n)) fun e w' => e = .returned v ∧ ∃ m, w' = w.drewN (a + m) :=
  h.mono fun _ _ h => ⟨h.1, n, h.2.symm⟩
theorem quiet_one {P : Program} {f : FuncId} {args : Array Value} {w : World} {n : Nat} {v : Value}
    (h : Calls P f args (w.drewN n) fun e w' => e = .returned v ∧ w.drewN n = w') : Calls P f args (w.drewN n) fun e w' => e = .returned v ∧ ∃ m, w' = w.drewN m :=
  h.mono fun _ _ h => ⟨h.1, n, h.2.symm⟩
theorem below_drewN {B : Nat} {a w : World} (h : Below B a w) (n : Nat) : Below B a (w.drewN n) := ⟨h.os, h.tape, h.output, h.size, h.block⟩

/-- Of the slice at p the cells in the world w are the digits zs (over β), and lie in blocks below B. -/
structure Rd (k : IntKind) (β B : Nat) (w : World) (p : Option Addr) (len : Nat) (zs : List Nat) : Prop where
  count : zs.length = len
  word : ∀ i, i < len → nth zs i < β
  cell : ∀ i, i < len → ∃ b off, p = some ⟨b, off, none⟩ ∧ b < B ∧ w.cell? ⟨b, off + i, none⟩ = some (.int k ((nth zs i : Nat) : Int))

section
variable {k : IntKind} {β B : Nat} {w w' : World} {p : Option Addr} {len : Nat} {zs : List Nat}

theorem Rd.nil (k : IntKind) (β B : Nat) (w : World) (p : Option Addr) : Rd k β B w p 0 [] := ⟨rfl, fun i hi => by omega, fun i hi => by omega⟩
theorem Rd.mono {B' : Nat} (h : Rd k β B w p len zs) (hB : B ≤ B') : Rd k β B' w p len zs :=
  ⟨h.count, h.word, fun i hi => by obtain ⟨b, off, h1, h2, h3⟩ := h.cell i hi; exact ⟨b, off, h1, by omega, h3⟩⟩
theorem Rd.below (h : Rd k β B w p len zs) (hb : Below B w w') : Rd k β B w' p len zs :=
  ⟨h.count, h.word, fun i hi => by
    obtain ⟨b, off, h1, h2, h3⟩ := h.cell i hi
    exact ⟨b, off, h1, h2, by rw [hb.cell (p := ⟨b, off + i, none⟩) h2]; exact h3⟩⟩
theorem Rd.take (h : Rd k β B w p len zs) (n : Nat) (hn : n ≤ len) : Rd k β B w p n (zs.take n) :=
  ⟨by rw [List.length_take, h.count]; omega, fun i hi => by rw [nth_take _ _ _ hi]; exact h.word i (by omega),
   fun i hi => by rw [nth_take _ _ _ hi]; exact h.cell i (by omega)⟩
theorem Rd.words (h : Rd k β B w p len zs) (hβ : 0 < β) (i : Nat) : nth zs i < β := by
  by_cases hi : i < len
  · exact h.word i hi
  · rw [nth_past _ _ (by rw [h.count]; omega)]; exact hβ
theorem Rd.words_lt (h : Rd k β B w p len zs) : ∀ i, i < zs.length → nth zs i < β := fun i hi => h.word i (by rw [h.count] at hi; exact hi)
theorem Rd.none (h : Rd k β B w none len zs) : len = 0 := by
  by_cases h0 : len = 0
  · exact h0
  · obtain ⟨b, off, h1, _⟩ := h.cell 0 (by omega); simp at h1
theorem Rd.vl (h : Rd k β B w p len zs) : vl β zs len = val β zs := by unfold val; rw [h.count]
theorem Rd.zero (h : Rd k β B w p 0 zs) : zs = [] := List.eq_nil_of_length_eq_zero h.count
/-- The cells of a slice at an address that is known. -/
theorem Rd.at {b off : Nat} (h : Rd k β B w (some ⟨b, off, Option.none⟩) len zs) (i : Nat) (hi : i < len) : b < B ∧ w.cell? ⟨b, off + i, Option.none⟩ = some (.int k ((nth zs i : Nat) : Int)) := by
  obtain ⟨b', off', h1, h2, h3⟩ := h.cell i hi
  simp only [Option.some.injEq, Addr.mk.injEq, and_true] at h1
  obtain ⟨rfl, rfl⟩ := h1
  exact ⟨h2, h3⟩
end

theorem Rd.next {k : IntKind} {β : Nat} {w1 w2 : World} {p : Option Addr} {len : Nat} {zs : List Nat} (h : Rd k β w1.heap.size w1 p len zs) (hb : Below w1.heap.size w1 w2) : Rd k β w2.heap.size w2 p len zs :=
  (h.below hb).mono hb.size
theorem Rd.short {k : IntKind} {β B : Nat} {w : World} {p : Option Addr} {len n : Nat} (hβ : 2 ≤ β) (h : Rd k β B w p len (digs β n)) {m : Nat} (hn : n < β ^ m) : len ≤ m := by
  rw [← h.count]; exact (digs_length_le hβ n m).2 hn
theorem Rd.val_lt {k : IntKind} {β B : Nat} {w : World} {p : Option Addr} {len : Nat} {zs : List Nat} (h : Rd k β B w p len zs) (hβ : 0 < β) {m : Nat} (hm : len ≤ m) : val β zs < β ^ m := by
  rw [← h.vl]
  exact Nat.lt_of_lt_of_le (vl_lt _ _ h.word) (Nat.pow_le_pow_right hβ hm)
theorem below_next {w w1 w2 : World} (h : Below w.heap.size w w1) (hb : Below w1.heap.size w1 w2) : Below w.heap.size w w2 := h.trans (hb.mono h.size)
theorem below_draws {w w1 : World} (h : Below w.heap.size w w1) (n : Nat) : Below w.heap.size w (w1.drewN n) := below_drewN h n

/-- A number's address, where it has none left: none. -/
def cutp (p : Option Addr) (n : Nat) : Option Addr := if n = 0 then none else p
theorem cutp_zero (p : Option Addr) : cutp p 0 = none := rfl
theorem cutp_pos (p : Option Addr) (n : Nat) (h : ¬ n = 0) : cutp p n = p := if_neg h
theorem cutp_or (p : Option Addr) (n : Nat) : cutp p n = none ∧ n = 0 ∨ cutp p n = p := by
  unfold cutp; split
  · exact Or.inl ⟨rfl, by assumption⟩
  · exact Or.inr rfl

theorem Rd.trim {k : IntKind} {β B : Nat} {w : World} {p : Option Addr} {len : Nat} {zs : List Nat} (hβ : 2 ≤ β) (h : Rd k β B w p len zs) :
    Rd k β B w (cutp p (tl zs len)) (tl zs len) (digs β (val β zs)) := by
  have h1 := tl_le zs len
  have h2 := h.take (tl zs len) h1
  rw [take_tl hβ zs len (by rw [h.count]; exact Nat.le_refl _) h.word, h.vl] at h2
  by_cases h0 : tl zs len = 0
  · rw [h0, cutp_zero]
    rw [h0] at h2
    rw [h2.zero]; exact Rd.nil _ _ _ _ _
  · rw [cutp_pos _ _ h0]; exact h2

/-- The first digits, without noughts at the top, where they lie. -/
theorem Rd.trimmed {k : IntKind} {β B : Nat} {w : World} {p : Option Addr} {len : Nat} {zs : List Nat} (hβ : 2 ≤ β) (h : Rd k β B w p len zs) : Rd k β B w p (tl zs len) (digs β (val β zs)) := by
  have h2 := h.take (tl zs len) (tl_le zs len)
  rwa [take_tl hβ zs len (by rw [h.count]; exact Nat.le_refl _) h.word, h.vl] at h2

/-- A row that the call made: block g holds N cells, the j-th is f j; none is frozen. -/
def Row (w : World) (g : Nat) (e : TypeId) (N : Nat) (f : Nat → Value) : Prop :=
  ∃ cur : Array Value, w.heap[g]? = some (.cells cur e (0, 0)) ∧ cur.size = N ∧ ∀ j, j < N → cur[j]? = some (f j)

section
variable {w w' : World} {g : Nat} {e : TypeId} {N : Nat} {f : Nat → Value}
theorem Row.lt (h : Row w g e N f) : g < w.heap.size := by
  obtain ⟨cur, h1, _⟩ := h
  exact (Array.getElem?_eq_some_iff.1 h1).1
theorem Row.cell (h : Row w g e N f) (j : Nat) (hj : j < N) : w.cell? ⟨g, j, none⟩ = some (f j) := by
  obtain ⟨cur, h1, h2, h3⟩ := h
  rw [cell_of_row w g j cur e (0, 0) h1]
  exact h3 j hj
theorem Row.free (h : Row w g e N f) (j : Nat) : w.frozen? ⟨g, j, none⟩ = false := by
  obtain ⟨cur, h1, _⟩ := h
  simp [World.frozen?, h1]
theorem Row.set (h : Row w g e N f) (i : Nat) (v : Value) : Row (w.setCell ⟨g, i, none⟩ v) g e N (fun j => if j = i then v else f j) := by
  obtain ⟨cur, h1, h2, h3⟩ := h
  refine ⟨cur.setIfInBounds i v, ?_, by simpa using h2, fun j hj => ?_⟩
  · exact heap_setCell_same w g i cur e v h1
  · rw [Array.getElem?_setIfInBounds]
    by_cases hi : i = j
    · subst hi; simp [h2, hj]
    · have hi' : ¬ j = i := fun h => hi h.symm
      simp only [if_neg hi, if_neg hi']; exact h3 j hj
theorem Row.congr {f' : Nat → Value} (h : Row w g e N f) (hf : ∀ j, j < N → f j = f' j) : Row w g e N f' := by
  obtain ⟨cur, h1, h2, h3⟩ := h
  exact ⟨cur, h1, h2, fun j hj => by rw [h3 j hj, hf j hj]⟩
theorem Row.kept (h : Row w g e N f) (hb : w'.heap[g]? = w.heap[g]?) : Row w' g e N f := by
  obtain ⟨cur, h1, h2, h3⟩ := h
  exact ⟨cur, by rw [hb]; exact h1, h2, h3⟩
theorem Row.below {B : Nat} (h : Row w g e N f) (hb : Below B w w') (hg : g < B) : Row w' g e N f := h.kept (hb.block g hg)
theorem Row.drew (h : Row w g e N f) : Row w.drew g e N f := h.kept rfl
theorem Row.alloc (h : Row w g e N f) (o : Obj) : Row (w.alloc o) g e N f := h.kept (Below.heap_alloc w o g h.lt)
/-- A window of a row reads. -/
theorem Row.rd {k : IntKind} {β B : Nat} (h : Row w g e N f) (off n : Nat) (zs : List Nat) (hB : g < B) (hn : off + n ≤ N) (hl : zs.length = n) (hw : ∀ i, i < n → nth zs i < β)
    (hf : ∀ i, i < n → f (off + i) = .int k ((nth zs i : Nat) : Int)) : Rd k β B w (some ⟨g, off, none⟩) n zs :=
  ⟨hl, hw, fun i hi => ⟨g, off, rfl, hB, by rw [h.cell _ (by omega), hf i hi]⟩⟩
end

theorem grown_trans {a b c : World} {r : Option Nat} (h : a.grownBy b r) (k : b.grownBy c r) : a.grownBy c r :=
  ⟨k.os.trans h.os, k.tape.trans h.tape, k.output.trans h.output, Nat.le_trans h.size k.size, fun i hi hr => (k.block i (Nat.lt_of_lt_of_le hi h.size) hr).trans (h.block i hi hr)⟩
theorem grown_set (w : World) (g i : Nat) (v : Value) : w.grownBy (w.setCell ⟨g, i, none⟩ v) (some g) :=
  ⟨rfl, rfl, rfl, by simp [World.setCell], fun k _ hr => Below.heap_setCell _ _ _ _ (by simpa using hr)⟩
theorem grown_drew {a w : World} {r : Option Nat} (h : a.grownBy w r) : a.grownBy w.drew r := ⟨h.os, h.tape, h.output, h.size, h.block⟩
theorem grown_drewN {a w : World} {r : Option Nat} (h : a.grownBy w r) (n : Nat) : a.grownBy (w.drewN n) r := ⟨h.os, h.tape, h.output, h.size, h.block⟩
theorem Rd.grown {k : IntKind} {β B g : Nat} {w w' : World} {p : Option Addr} {len : Nat} {zs : List Nat} (h : Rd k β B w p len zs) (hg : w.grownBy w' (some g)) (hB : B ≤ g) (hs : g ≤ w.heap.size) : Rd k β B w' p len zs :=
  h.below ((Below.refl B w).grown hg (by omega) (fun k hk => by simp at hk; omega))
/-- The digits as values. -/
def ints (k : IntKind) (zs : List Nat) : List Value := zs.map fun (z : Nat) => Value.int k (z : Int)
theorem ints_length (k : IntKind) (zs : List Nat) : (ints k zs).length = zs.length := by simp [ints]
theorem ints_append (k : IntKind) (xs ys : List Nat) : ints k (xs ++ ys) = ints k xs ++ ints k ys := by simp [ints]
theorem ints_at (k : IntKind) (zs : List Nat) (i : Nat) (h : i < zs.length) : (ints k zs)[i]? = some (.int k ((nth zs i : Nat) : Int)) := by
  simp [ints, nth, h]
theorem ints_one (k : IntKind) (zs : List Nat) : ∀ u ∈ ints k zs, u.oneCell' = true := by
  intro u hu
  obtain ⟨_, _, rfl⟩ := List.mem_map.1 hu
  rfl

theorem owns_drewN {w : World} {base : Nat} {e : TypeId} {v : Value} {n : Nat} {xs : List Value} (h : w.ownsRow base e 1 v n xs) (d : Nat) : (w.drewN d).ownsRow base e 1 v n xs := h
theorem le_alloc_drewN (w : World) (d : Nat) (o : Obj) : w.heap.size ≤ ((w.drewN d).alloc o).heap.size := by
  show w.heap.size ≤ (w.heap.push o).size
  simp
theorem cell_alloc_drewN (w : World) (d : Nat) (v : Value) (e : TypeId) : ((w.drewN d).alloc (.cells #[v] e)).cell? ⟨w.heap.size, 0, none⟩ = some v := by
  have h : ((w.drewN d).alloc (.cells #[v] e)).cell? ⟨(w.drewN d).heap.size, 0, none⟩ = some v := by rw [World.cell?_alloc_at _ _ _ _ rfl]; rfl
  exact h
theorem owns_below {w w' : World} {base B : Nat} {e : TypeId} {v : Value} {n : Nat} {xs : List Value} (h : w.ownsRow base e 1 v n xs) (hb : Below B w w') (hB : w.heap.size ≤ B) : w'.ownsRow base e 1 v n xs := by
  refine ⟨h.1, ?_⟩
  rcases h.2 with h2 | ⟨g, cap, cur, hv, hg, hh, r⟩
  · exact Or.inl h2
  · exact Or.inr ⟨g, cap, cur, hv, hg, by rw [hb.block g (by have := (Array.getElem?_eq_some_iff.1 hh).1; omega)]; exact hh, r⟩
/-- The shape of an owned value that holds something. -/
theorem owns_shape {w : World} {base : Nat} {e : TypeId} {v : Value} {n : Nat} {xs : List Value} (h : w.ownsRow base e 1 v n xs) (hn : 0 < n) :
    ∃ g cap, v = .slice (some ⟨g, 0, none⟩) n cap ∧ base ≤ g ∧ n ≤ cap ∧ cap ≤ maxLen := by
  rcases h.2 with ⟨_, h0⟩ | ⟨g, cap, cur, h1, h2, h3, h4, h5, h6, h7⟩
  · omega
  · exact ⟨g, cap, h1, h2, h4, h5⟩
/-- The shape of an owned value, whatever it holds. -/
theorem owns_any {w : World} {base : Nat} {e : TypeId} {v : Value} {n : Nat} {xs : List Value} (h : w.ownsRow base e 1 v n xs) :
    ∃ p cap, v = .slice p n cap ∧ n ≤ cap ∧ cap ≤ maxLen ∧ (p = none → n = 0 ∧ cap = 0) ∧ (∀ a, p = some a → ∃ g, a = ⟨g, 0, none⟩ ∧ base ≤ g ∧ g < w.heap.size) := by
  rcases h.2 with ⟨h0, h1⟩ | ⟨g, cap, cur, h1, h2, h3, h4, h5, h6, h7⟩
  · subst h1; exact ⟨none, 0, h0, by omega, by unfold maxLen; omega, fun _ => ⟨rfl, rfl⟩, fun a ha => by simp at ha⟩
  · exact ⟨some ⟨g, 0, none⟩, cap, h1, h4, h5, fun h => by simp at h, fun a ha => ⟨g, by simpa using ha.symm, h2, (Array.getElem?_eq_some_iff.1 h3).1⟩⟩
theorem owns_row {w : World} {base : Nat} {e : TypeId} {g n cap : Nat} {xs : List Value} (h : w.ownsRow base e 1 (.slice (some ⟨g, 0, none⟩) n cap) n xs) :
    ∃ f, Row w g e cap f ∧ ∀ j, j < n → some (f j) = xs[j]? := by
  rcases h.2 with ⟨h0, _⟩ | ⟨g', cap', cur, h1, h2, h3, h4, h5, h6, h7⟩
  · simp at h0
  · simp only [Value.slice.injEq, Option.some.injEq, Addr.mk.injEq, and_true, true_and] at h1
    obtain ⟨rfl, rfl⟩ := h1
    refine ⟨fun j => (cur[j]?).getD undef, ⟨cur, h3, by omega, fun j hj => ?_⟩, fun j hj => ?_⟩
    · have : j < cur.size := by omega
      simp [this]
    · have : j < cur.size := by omega
      rw [← h7, List.getElem?_take, if_pos (by omega)]
      simp [this]
theorem owns_room {w : World} {base : Nat} {e : TypeId} {p : Option Addr} {n cap : Nat} {xs : List Value} (h : w.ownsRow base e 1 (.slice p n cap) n xs) : n ≤ cap := by
  obtain ⟨p', cap', h1, h2, _⟩ := owns_any h
  simp only [Value.slice.injEq, true_and] at h1
  omega
theorem owns_nil {w : World} {base : Nat} {e : TypeId} {p : Option Addr} {n cap : Nat} {xs : List Value} (h : w.ownsRow base e 1 (.slice p n cap) n xs) : p = none → cap = 0 := by
  obtain ⟨p', cap', h1, h2, h3, h4, _⟩ := owns_any h
  simp only [Value.slice.injEq, true_and] at h1
  obtain ⟨rfl, rfl⟩ := h1
  exact fun h => (h4 h).2
/-- What is owned reads. -/
theorem owns_rd {w : World} {base : Nat} {e : TypeId} {k : IntKind} {β B : Nat} {p : Option Addr} {n cap : Nat} {zs : List Nat} (h : w.ownsRow base e 1 (.slice p n cap) n (ints k zs))
    (hB : w.heap.size ≤ B) (hw : ∀ i, i < zs.length → nth zs i < β) : Rd k β B w p n zs := by
  have hl : zs.length = n := by have := h.1; rw [ints_length] at this; omega
  by_cases h0 : n = 0
  · subst h0
    obtain rfl := List.eq_nil_of_length_eq_zero hl
    exact Rd.nil _ _ _ _ _
  · obtain ⟨g, cap', h1, h2, h3, h4⟩ := owns_shape h (by omega)
    simp only [Value.slice.injEq, true_and] at h1
    obtain ⟨rfl, rfl⟩ := h1
    obtain ⟨f, hr, hf⟩ := owns_row h
    refine hr.rd 0 n zs (by have := hr.lt; omega) (by omega) hl (fun i hi => hw i (by omega)) (fun i hi => ?_)
    have := hf i hi
    rw [ints_at _ _ _ (by omega)] at this
    rw [Nat.zero_add]
    simpa using this

/-- The element type of a slice of numbers. -/
structure NumTy (P : Program) (t e : TypeId) (k : IntKind) (bytes : Nat) : Prop where
  sl : P.underlying t = some (.slice e)
  info : (P.info? e).map (fun i => (i.zero, i.size, i.bytes)) = some (some (.int k 0), 1, bytes)

section
variable {P : Program} {w : World} {ops : Array Oper} {rest : List Oper} {o : Oper} {a : Act} {Q : Exit → Act → World → Prop}

/-- 'out = append(out, x)', of one number, which lies in a block of its own. -/
theorem wpl_append_one {t e : TypeId} {k : IntKind} {bytes : Nat} (T : NumTy P t e k bytes) (hgd : o.guard = none) (s x : Operand)
    (ho : o.op = .call { callee := .builtin .append, args := #[s, x], argTypes := #[t, t] })
    (base n : Nat) (v : Value) (xs : List Nat) (hs : a.eval s = v) (hown : w.ownsRow base e 1 v n (ints k xs))
    (z : Nat) (ad : Addr) (hx : a.eval x = .slice (some ad) 1 1) (hz : w.cell? ad = some (.int k (z : Int)))
    (h63 : n + 1 ≤ 1099511627776) (hby : bytes ≤ 8) (hbase : base ≤ w.heap.size)
    (h : ∀ p cap w', w'.ownsRow base e 1 (.slice p (n + 1) cap) (n + 1) (ints k (xs ++ [z])) → w.grownBy w' v.ownBlock → wpList P ops Q rest (a.put o.dst (.slice p (n + 1) cap)) w') : wpList P ops Q (o :: rest) a w := by
  obtain ⟨i, hi, hz0, hz1, hz2⟩ := info_parts T.info
  refine wpList_append_own w hgd s x t ho base e i (.int k 0) 1 bytes T.sl hi hz0 hz1 hz2 rfl (by decide) v n (ints k xs) hs hown ad 1 1 (ints k [z]) hx (by simp [ints]) ?_ (ints_one _ _) (by unfold maxLen; omega) ?_ hbase ?_
  · intro j u hj
    match j, hj with
    | 0, hj =>
      simp [ints] at hj
      subst hj
      have : ad.add 0 = ad := by unfold Addr.add; split <;> simp_all
      rw [this]; exact hz
    | j + 1, hj => simp [ints] at hj
  · have : (n + 1) * bytes ≤ (n + 1) * 8 := Nat.mul_le_mul_left _ hby
    omega
  · intro v' w' h1 h2 _
    rw [← ints_append] at h1
    obtain ⟨g, cap, rfl, _⟩ := owns_shape h1 (by omega)
    exact h _ _ _ h1 h2

theorem addr_add_lit (b off j : Nat) : (⟨b, off, none⟩ : Addr).add j = ⟨b, off + j, none⟩ := by unfold Addr.add; split <;> simp_all

/-- 'out = append(out, ys...)', ys a slice of numbers that reads; nil, too. -/
theorem wpl_append_nums {t e : TypeId} {k : IntKind} {bytes : Nat} (T : NumTy P t e k bytes) (hgd : o.guard = none) (s x : Operand)
    (ho : o.op = .call { callee := .builtin .append, args := #[s, x], argTypes := #[t, t] })
    (base n : Nat) (v : Value) (xs : List Nat) (hs : a.eval s = v) (hown : w.ownsRow base e 1 v n (ints k xs))
    {β B : Nat} (q : Option Addr) (m c : Nat) (ys : List Nat) (hx : a.eval x = .slice q m c) (hR : Rd k β B w q m ys) (hq : q = none → c = 0)
    (h63 : n + m ≤ 1099511627776) (hby : bytes ≤ 8) (hbase : base ≤ w.heap.size)
    (h : ∀ p cap w', w'.ownsRow base e 1 (.slice p (n + m) cap) (n + m) (ints k (xs ++ ys)) → w.grownBy w' v.ownBlock → wpList P ops Q rest (a.put o.dst (.slice p (n + m) cap)) w') : wpList P ops Q (o :: rest) a w := by
  obtain ⟨i, hi, hz0, hz1, hz2⟩ := info_parts T.info
  cases q with
  | none =>
    obtain rfl := hR.none
    obtain rfl := hq rfl
    obtain rfl := hR.zero
    rw [List.append_nil, Nat.add_zero] at h
    obtain ⟨p, cap, rfl, _⟩ := owns_any hown
    exact wpList_append_own_none hgd s x t ho base e i 1 T.sl hi _ n (ints k xs) hs hown hx (h _ _ _ hown (World.grownBy.refl _ _))
  | some ad =>
    refine wpList_append_own w hgd s x t ho base e i (.int k 0) 1 bytes T.sl hi hz0 hz1 hz2 rfl (by decide) v n (ints k xs) hs hown ad m c (ints k ys) hx (by rw [ints_length, hR.count]; omega) ?_ (ints_one _ _) (by unfold maxLen; omega) ?_ hbase ?_
    · intro j u hj
      have hj' : j < m := by
        have := (List.getElem?_eq_some_iff.1 hj).1
        rwa [ints_length, hR.count] at this
      obtain ⟨b, off, h1, h2, h3⟩ := hR.cell j hj'
      rw [ints_at _ _ _ (by rw [hR.count]; exact hj')] at hj
      obtain rfl := Option.some.inj h1
      rw [addr_add_lit, h3, hj]
    · have : (n + m) * bytes ≤ (n + m) * 8 := Nat.mul_le_mul_left _ hby
      omega
    · intro v' w' h1 h2 _
      rw [← ints_append] at h1
      obtain ⟨p, cap, rfl, _⟩ := owns_any h1
      exact h _ _ _ h1 h2

/-- 'append(s, x)' of one number, onto a slice that reads and has no room: a new row. -/
theorem wpl_append_full {t e : TypeId} {k : IntKind} {bytes : Nat} (T : NumTy P t e k bytes) (hgd : o.guard = none) (s x : Operand)
    (ho : o.op = .call { callee := .builtin .append, args := #[s, x], argTypes := #[t, t] })
    {β B : Nat} (q : Option Addr) (m : Nat) (ys : List Nat) (hs : a.eval s = .slice q m m) (hR : Rd k β B w q m ys)
    (z : Nat) (ad : Addr) (hx : a.eval x = .slice (some ad) 1 1) (hz : w.cell? ad = some (.int k (z : Int)))
    (h63 : m + 1 ≤ 1099511627776) (hby : bytes ≤ 8)
    (h : ∀ g cap w', m + 1 ≤ cap → cap ≤ maxLen → w.heap.size ≤ g → w'.ownsRow w.heap.size e 1 (.slice (some ⟨g, 0, none⟩) (m + 1) cap) (m + 1) (ints k (ys ++ [z])) → w.grownBy w' none → wpList P ops Q rest (a.put o.dst (.slice (some ⟨g, 0, none⟩) (m + 1) cap)) w') : wpList P ops Q (o :: rest) a w := by
  obtain ⟨i, hi, hz0, hz1, hz2⟩ := info_parts T.info
  refine wpList_append_grows w hgd s x t ho e i (.int k 0) 1 bytes T.sl hi hz0 hz1 hz2 rfl (by decide) q m m (ints k ys) hs ?_ (by rw [ints_length, hR.count]; omega) ?_ ad 1 1 (ints k [z]) hx (by simp [ints]) ?_ (ints_one _ _) (by omega) (by unfold maxLen; omega) ?_ ?_
  · rintro rfl; exact ⟨hR.none, hR.none⟩
  · rintro b rfl j u hj
    have hj' : j < m := by
      have := (List.getElem?_eq_some_iff.1 hj).1
      rwa [ints_length, hR.count] at this
    obtain ⟨b', off, h1, h2, h3⟩ := hR.cell j hj'
    rw [ints_at _ _ _ (by rw [hR.count]; exact hj')] at hj
    obtain rfl := Option.some.inj h1
    rw [addr_add_lit, h3, hj]
  · intro j u hj
    match j, hj with
    | 0, hj =>
      simp [ints] at hj
      subst hj
      have : ad.add 0 = ad := by unfold Addr.add; split <;> simp_all
      rw [this]; exact hz
    | j + 1, hj => simp [ints] at hj
  · have : (m + 1) * bytes ≤ (m + 1) * 8 := Nat.mul_le_mul_left _ hby
    omega
  · intro v' w' h1 h2
    rw [← ints_append] at h1
    obtain ⟨g, cap, rfl, h3, h4, h5⟩ := owns_shape h1 (by omega)
    exact h _ _ _ h4 h5 h3 h1 h2

/-- 'make([]T, n)' of numbers: a row of noughts. -/
theorem wpl_make_nums {t e : TypeId} {k : IntKind} {bytes : Nat} (T : NumTy P t e k bytes) (hgd : o.guard = none) (l c : Operand) (hop : o.op = Op.makeSlice t l c)
    (kl kc : IntKind) (L C : Int) (n : Nat) (hl : a.eval l = .int kl L) (hc : a.eval c = .int kc C) (hL : L = (n : Int)) (hC : C = (n : Int)) (hn : n ≤ 1099511627776) (hby : bytes ≤ 8)
    (h : ∀ w', Row w' w.heap.size e n (fun _ => .int k 0) → w.grownBy w' none → wpList P ops Q rest (a.put o.dst (.slice (some ⟨w.heap.size, 0, none⟩) n n)) w') : wpList P ops Q (o :: rest) a w := by
  obtain ⟨i, hi, hz0, hz1, hz2⟩ := info_parts T.info
  refine wpList_make_full w hgd l c t hop w.heap.size e i (.int k 0) 1 T.sl hi hz0 hz1 kl kc L C n hl hc hL hC ?_ (by unfold maxLen; omega) (Nat.le_refl _) ?_
  · rw [hz2]
    have : bytes * n ≤ 8 * n := Nat.mul_le_mul_right _ hby
    omega
  · intro w' h1 h2
    obtain ⟨f, hr, hf⟩ := owns_row h1
    refine h w' (hr.congr fun j hj => ?_) h2
    have := hf j hj
    rw [show (Value.int k 0).cells = #[.int k 0] from rfl, toList_madeCells_one, List.getElem?_replicate] at this
    rw [if_pos (by omega)] at this
    exact Option.some.inj this

/-- 'make([]T, n)' of numbers, which may be appended to. -/
theorem wpl_make_own {t e : TypeId} {k : IntKind} {bytes : Nat} (T : NumTy P t e k bytes) (hgd : o.guard = none) (l c : Operand) (hop : o.op = Op.makeSlice t l c)
    (base : Nat) (kl kc : IntKind) (L C : Int) (n : Nat) (hl : a.eval l = .int kl L) (hc : a.eval c = .int kc C) (hL : L = (n : Int)) (hC : C = (n : Int)) (hn : n ≤ 1099511627776) (hby : bytes ≤ 8) (hbase : base ≤ w.heap.size)
    (h : ∀ w', w'.ownsRow base e 1 (.slice (some ⟨w.heap.size, 0, none⟩) n n) n (ints k (List.replicate n 0)) → w.grownBy w' none → wpList P ops Q rest (a.put o.dst (.slice (some ⟨w.heap.size, 0, none⟩) n n)) w') : wpList P ops Q (o :: rest) a w := by
  obtain ⟨i, hi, hz0, hz1, hz2⟩ := info_parts T.info
  refine wpList_make_full w hgd l c t hop base e i (.int k 0) 1 T.sl hi hz0 hz1 kl kc L C n hl hc hL hC ?_ (by unfold maxLen; omega) hbase ?_
  · rw [hz2]
    have : bytes * n ≤ 8 * n := Nat.mul_le_mul_right _ hby
    omega
  · intro w' h1 h2
    refine h w' ?_ h2
    rw [show (Value.int k 0).cells = #[.int k 0] from rfl, toList_madeCells_one, Nat.mul_one] at h1
    have e1 : ints k (List.replicate n 0) = List.replicate n (.int k 0) := by simp [ints]
    rw [e1]; exact h1
end

end Go.Proofs.Ytknkakkdhihngaa
