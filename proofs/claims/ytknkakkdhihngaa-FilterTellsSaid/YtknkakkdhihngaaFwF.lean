/- Floats in a walk: bits and back, without a sign; a sum, a difference, a product, whatever the bits. -/
import Derived.Test.YtknkakkdhihngaaFwE
import Derived.Test.YtknkakkdhihngaaFltR
import Derived.WalkLawsBesides
import Derived.Laws.Externs
namespace Go.Proofs.Ytknkakkdhihngaa
open Go.RowKit Ieee

theorem run_store_float (P : Program) (w : World) (a : Addr) (m : Mode) (k : FloatKind) (b : Nat) : (store a (.float k b) m).run P w = stored P w a (.float k b) m := run_store P w a _ m rfl
theorem run_store_func (P : Program) (w : World) (a : Addr) (m : Mode) (fn : Fn) (x y : Array Value) : (store a (.func fn x y) m).run P w = stored P w a (.func fn x y) m := run_store P w a _ m rfl

def fromEntry : Array Value → Sem Value := Extern.MathFloatBits.float64frombits
theorem run_from (b : Nat) (w : World) : (callFunc 40 #[.int .u64 (b : Int)]).run Try.prog w = .ok (.value (.float .f64 b)) w := by
  rw [run_callFunc_extern Try.func40 (by kernel_rfl) (by kernel_rfl) (by kernel_rfl) (e := fromEntry) (by kernel_rfl)]
  rw [show fromEntry #[.int .u64 (b : Int)] = pure (.float .f64 b) from rfl]
  rfl
def bitsEntry : Array Value → Sem Value := Extern.MathFloatBits.float64bits
theorem run_bits (b : Nat) (w : World) : (callFunc 17 #[.float .f64 b]).run Try.prog w = .ok (.value (.int .u64 (b : Int))) w := by
  rw [run_callFunc_extern Try.func17 (by kernel_rfl) (by kernel_rfl) (by kernel_rfl) (e := bitsEntry) (by kernel_rfl)]
  unfold bitsEntry Extern.MathFloatBits.float64bits
  rfl

/-- What an operation gives where it has no answer: a word that is no number. -/
def nanCut (t : Nat) : Nat := (t % 2) * 2 ^ 63 + 0x7ff0000000000000 + 1 + (t / 2) % (2 ^ 52 - 1)
theorem nanCut_is (t : Nat) : nanCut t < 18446744073709551616 ∧ nanB (nanCut t) = true := by
  have h : nanCut t = (t % 2) * 9223372036854775808 + 9218868437227405312 + 1 + (t / 2) % 4503599627370495 := rfl
  unfold nanB fE fF P52
  rw [h]
  have h1 : t % 2 = 0 ∨ t % 2 = 1 := by omega
  have h2 : t / 2 % 4503599627370495 < 4503599627370495 := Nat.mod_lt _ (by omega)
  generalize t / 2 % 4503599627370495 = m at *
  clear h
  rw [Bool.and_eq_true, decide_eq_true_eq, decide_eq_true_eq]
  rcases h1 with h1 | h1 <;> rw [h1] <;> omega
/-- .. as functions of the world, for the walk. -/
def fans (f : Nat → Nat → Option Nat) (x y : Nat) (w : World) : Nat := match f x y with | some r => r | none => nanCut (w.tape w.drawn (.nanBits .f64 x y))
def fdraw (f : Nat → Nat → Option Nat) (x y : Nat) : Nat := match f x y with | some _ => 0 | none => 1
theorem run_fop {P : Program} (op : BinOp) (f : Nat → Nat → Option Nat) (hf : (op = .add ∧ f = double.add) ∨ (op = .sub ∧ f = double.sub) ∨ (op = .mul ∧ f = double.mul)) (t : TypeId) (x y : Nat) (w : World) :
    (binOp op t (.float .f64 x) (.float .f64 y)).run P w = .ok (.float .f64 (fans f x y w)) (w.drewN (fdraw f x y)) := by
  have hb : floatBits op .f64 x y = f x y := by rcases hf with ⟨rfl, rfl⟩ | ⟨rfl, rfl⟩ | ⟨rfl, rfl⟩ <;> rfl
  unfold fans fdraw
  cases h : f x y with
  | some r => rw [run_float_arith w op t .f64 x y r (by rw [hb, h])]; rfl
  | none =>
    rw [← hb] at h
    unfold floatBits at h
    rcases hf with ⟨rfl, _⟩ | ⟨rfl, _⟩ | ⟨rfl, _⟩ <;> simp only at h <;> simp [binOp, Op.floatArith, h] <;> rfl
theorem run_fadd (P : Program) (t : TypeId) (x y : Nat) (w : World) : (binOp .add t (.float .f64 x) (.float .f64 y)).run P w = .ok (.float .f64 (fans double.add x y w)) (w.drewN (fdraw double.add x y)) := run_fop .add _ (Or.inl ⟨rfl, rfl⟩) t x y w
theorem run_fsub (P : Program) (t : TypeId) (x y : Nat) (w : World) : (binOp .sub t (.float .f64 x) (.float .f64 y)).run P w = .ok (.float .f64 (fans double.sub x y w)) (w.drewN (fdraw double.sub x y)) := run_fop .sub _ (Or.inr (Or.inl ⟨rfl, rfl⟩)) t x y w
theorem run_fmul (P : Program) (t : TypeId) (x y : Nat) (w : World) : (binOp .mul t (.float .f64 x) (.float .f64 y)).run P w = .ok (.float .f64 (fans double.mul x y w)) (w.drewN (fdraw double.mul x y)) := run_fop .mul _ (Or.inr (Or.inr ⟨rfl, rfl⟩)) t x y w
theorem fans_is {f : Nat → Nat → Option Nat} (hf : f = double.add ∨ f = double.sub ∨ f = double.mul) {x y : Nat} (hx : x < 18446744073709551616) (hy : y < 18446744073709551616) (w : World) : fans f x y w < 18446744073709551616 ∧ Cls (fans f x y w) = opC f (Cls x) (Cls y) := by
  obtain ⟨K, hK⟩ := isK_ex
  obtain ⟨O, hO⟩ := isO_ex
  have hc : (match f x y with | some r => r < 18446744073709551616 ∧ Cls r = opC f (Cls x) (Cls y) | none => opC f (Cls x) (Cls y) = none) := by
    rcases hf with rfl | rfl | rfl
    · exact (add_law hO).cls hx hy
    · exact (sub_law hO).cls hx hy
    · exact (mul_law hK hO).cls hx hy
  unfold fans
  cases h : f x y with
  | some r => rw [h] at hc; exact hc
  | none =>
    rw [h] at hc
    have hn := nanCut_is (w.tape w.drawn (.nanBits .f64 x y))
    refine ⟨hn.1, ?_⟩
    show Cls (nanCut _) = _
    rw [hc]; unfold Cls; rw [hn.2]; rfl
/-- A float comes back, whose bits are of this class. -/
def GivesF (w : World) (c : Option Nat) (e : Ending) (w' : World) : Prop := ∃ r, e = .returned (.float .f64 r) ∧ r < 18446744073709551616 ∧ Cls r = c ∧ Below w.heap.size w w'

theorem abs_any (b : Nat) (hb : b < 18446744073709551616) (w : World) : Calls Try.prog 24 #[.float .f64 b] w fun e w' => e = .returned (.float .f64 (fR b)) ∧ w = w' := by
  have h1 := run_bits b
  have h2 := run_from (fR b)
  have h3 := andNot_sign b hb
  go_enter Try.func24, Try.ntmps24
  go_wp2_with (simp only [h1, h2, h3])
  go_ret
  exact ⟨rfl, rfl⟩
theorem refFloat_any (b : Nat) (w : World) : Calls Try.prog 26 #[.int .u64 (b : Int)] w fun e w' => e = .returned (.float .f64 b) ∧ w = w' := by
  have h2 := run_from b
  go_enter Try.func26, Try.ntmps26
  go_wp2_with (simp only [h2])
  go_ret
  exact ⟨rfl, rfl⟩
theorem rounding_any (w : World) : Calls Try.prog 22 #[] w fun e w' => e = .returned (.func (.func 38) #[] #[]) ∧ w = w' := by
  go_enter Try.func22, Try.ntmps22
  go_wp2
  go_ret
  exact ⟨rfl, rfl⟩
theorem round_any (b : Nat) (w : World) : Calls Try.prog 38 #[.float .f64 b] w fun e w' => e = .returned (.float .f64 b) ∧ w = w' := by
  have h : ∀ w, (convert 28 28 (.float .f64 b)).run Try.prog w = .ok (.float .f64 b) w := fun w => run_convert_float_float w _ _ .f64 .f64 b b (by kernel_rfl) Try.underlying28 rfl
  go_enter Try.func38, Try.ntmps38
  go_wp2_with (simp only [h])
  go_ret
  exact ⟨rfl, rfl⟩
end Go.Proofs.Ytknkakkdhihngaa
