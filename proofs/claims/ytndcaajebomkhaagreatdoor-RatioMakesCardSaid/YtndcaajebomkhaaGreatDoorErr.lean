/- errors.Is over api.Code: a code is itself. '==' between two codes. -/
import Derived.Test.YtndcaajebomkhaaGreatDoorChecked
import Derived.WalkKit
import Derived.LaidEql
import Derived.Stop.Asserts
import Derived.RowKitTokens
import Derived.Lib.Hide
namespace Go.Proofs.YtndcaajebomkhaaGreatDoor
open Go.RowKit Go.Extern.Stop Go.Stop Go.Extern

section
variable {P : Program} (w : World)
theorem equalIn_codes (d : Nat) {ti tn : TypeId} {ms : Array (String × TypeId)} {i : TypeInfo} {k : IntKind} (a b : Int)
    (hi : P.underlying ti = some (.interface ms)) (hn : P.underlying tn = some (.int k)) (hinfo : P.info? tn = some i) (hcomp : i.comparable = true) :
    (Op.equalIn (d + 2) ti (.iface tn (.int k a)) (.iface tn (.int k b))).run P w = .ok (a == b) w := by
  simp [Op.equalIn, run_underlying hi, run_underlying hn, typeInfo, hinfo, hcomp]
/-- Two interface values of one integer type are the same just as the numbers are. -/
theorem eql_codes {ti tn : TypeId} {ms : Array (String × TypeId)} {i : TypeInfo} {k : IntKind} (a b : Int)
    (hi : P.underlying ti = some (.interface ms)) (hn : P.underlying tn = some (.int k)) (hinfo : P.info? tn = some i) (hcomp : i.comparable = true) :
    (binOp .eql ti (.iface tn (.int k a)) (.iface tn (.int k b))).run P w = .ok (.bool (a == b)) w := by
  simp only [binOp]
  simp [Op.equal, Op.maxDepth, equalIn_codes w 9998 a b hi hn hinfo hcomp]
end

theorem codeTypeOf (v : Value) (w : World) : (callFunc 103 #[.iface 73 v]).run Tryz.prog w = .ok (.value (.iface 143 (.agg #[.pointer (some ⟨9, 73, none⟩)]))) w := by kernel_rfl
theorem codeComparable (w : World) : (callFunc 154 #[.agg #[.pointer (some ⟨9, 73, none⟩)]]).run Tryz.prog w = .ok (.value (.bool true)) w := by kernel_rfl
theorem rtypeComparable (v : Value) (w : World) : (Go.method 312 143 v "Comparable").run Tryz.prog w = .ok (154, v) w := by kernel_rfl
theorem codeInfo : (Tryz.prog.info? 73).map (·.comparable) = some true := by kernel_rfl

/-- errors.Is(c, c), c a code. -/
theorem is_code (c : Int) (w : World) :
    Calls Tryz.prog 110 #[.iface 73 (.int .i64 c), .iface 73 (.int .i64 c)] w fun e w' => e = .returned (.bool true) ∧ w = w' := by
  obtain ⟨i, hi, hcmp⟩ := Option.map_eq_some_iff.1 codeInfo
  have tT := codeTypeOf
  have cT := codeComparable
  have mR := rtypeComparable
  have heq := eql_codes (P := Tryz.prog) w (k := .i64) c c Tryz.underlying31 Tryz.underlying73 hi hcmp
  rw [show (c == c) = true from by simp] at heq
  go_enter Tryz.func110, Tryz.ntmps110
  go_wp2
  refine wp_loop_rounds 1 ?_
  rw [rounds_succ]
  go_wp2
  go_ret
  exact ⟨rfl, rfl⟩
end Go.Proofs.YtndcaajebomkhaaGreatDoor
