/- Layer 1 (nat): what its functions do to any numbers: trim, Plain, the library's Add64, Sub64, Mul64, Len64, Compare. -/
import Derived.Test.YtknkakkdhihngaaChecked
import Derived.Test.YtknkakkdhihngaaMem
import Derived.WalkSpells
import Derived.Shelf.Spec.BitsCarry
namespace Go.Proofs.Ytknkakkdhihngaa
open Go.RowKit

/-- 2^64. -/
def W64 : Nat := 18446744073709551616
theorem two_le_W64 : 2 ≤ W64 := by unfold W64; omega
theorem W64_pos : 0 < W64 := by unfold W64; omega

theorem Try.numTy64 : NumTy Try.prog 68 22 .u64 8 := ⟨Try.underlying68, by kernel_rfl⟩


/-- The borrow. -/
def bor (x y b : Nat) : Nat := if x < y + b then 1 else 0
theorem bor_le (x y b : Nat) : bor x y b ≤ 1 := by unfold bor; split <;> omega


/-- What trim hands back: nil, or what was handed in, shorter. -/
def Trimmed (B : Nat) (w : World) (_p : Option Addr) (len : Nat) (zs : List Nat) (e : Ending) (w' : World) : Prop :=
  ∃ q n, e = .returned (.slice q n n) ∧ n ≤ len ∧ (q = none → n = 0) ∧ Rd .u64 W64 B w q n (digs W64 (val W64 zs)) ∧ w = w'


/-- What trim hands back, and where it lies. -/
def TrimmedP (B : Nat) (w : World) (p : Option Addr) (len : Nat) (zs : List Nat) (e : Ending) (w' : World) : Prop :=
  ∃ q n, e = .returned (.slice q n n) ∧ n ≤ len ∧ (q = none → n = 0) ∧ (q = none ∨ q = p) ∧ Rd .u64 W64 B w q n (digs W64 (val W64 zs)) ∧ w = w'


/-- A number comes back, plain, in whatever memory; what was there is as it was. -/
def Gives (k : IntKind) (β : Nat) (w : World) (n : Nat) (e : Ending) (w' : World) : Prop :=
  ∃ q m c, e = .returned (.slice q m c) ∧ m ≤ c ∧ (q = none → c = 0) ∧ Rd k β w'.heap.size w' q m (digs β n) ∧ Below w.heap.size w w'

/-- .. beside no error. -/
def Gives2 (k : IntKind) (β : Nat) (w : World) (n : Nat) (e : Ending) (w' : World) : Prop :=
  ∃ q m c, e = .returned (.tuple #[.slice q m c, .nilIface]) ∧ m ≤ c ∧ (q = none → c = 0) ∧ Rd k β w'.heap.size w' q m (digs β n) ∧ Below w.heap.size w w'
/-- .. in new memory. -/
def Gives2F (k : IntKind) (β : Nat) (w : World) (n : Nat) (e : Ending) (w' : World) : Prop :=
  ∃ q m c, e = .returned (.tuple #[.slice q m c, .nilIface]) ∧ m ≤ c ∧ (q = none → c = 0) ∧ Rd k β w'.heap.size w' q m (digs β n) ∧ Below w.heap.size w w' ∧ (∀ a, q = some a → w.heap.size ≤ a.block)
/-- .. without spare room. -/
def Gives2T (k : IntKind) (β : Nat) (w : World) (n : Nat) (e : Ending) (w' : World) : Prop :=
  ∃ q m, e = .returned (.tuple #[.slice q m m, .nilIface]) ∧ (q = none → m = 0) ∧ Rd k β w'.heap.size w' q m (digs β n) ∧ Below w.heap.size w w'

/-- A number comes back, plain, in a row of its own. -/
def Owns (w : World) (n : Nat) (e : Ending) (w' : World) : Prop :=
  ∃ q m c, e = .returned (.slice q m c) ∧ w'.ownsRow w.heap.size 22 1 (.slice q m c) m (ints .u64 (digs W64 n)) ∧ Below w.heap.size w w'

end Go.Proofs.Ytknkakkdhihngaa
