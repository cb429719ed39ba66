/- errors.Is over api.Code: a code is itself. '==' between two codes. -/
import Derived.Test.YtioajdabiejhmaaDoorChecked
import Derived.WalkKit
import Derived.LaidEql
import Derived.Stop.Asserts
import Derived.RowKitTokens
import Derived.Lib.Hide
namespace Go.Proofs.YtioajdabiejhmaaDoor
open Go.RowKit Go.Extern.Stop Go.Stop Go.Extern

section
variable {P : Program} (w : World)
theorem equalIn_codes (d : Nat) {ti tn : TypeId} {ms : Array (String × TypeId)} {i : TypeInfo} {k : IntKind} (a b : Int)
    (hi : P.underlying ti = some (.interface ms)) (hn : P.underlying tn = some (.int k)) (hinfo : P.info? tn = some i) (hcomp : i.comparable = true) :
    (Op.equalIn (d + 2) ti (.iface tn (.int k a)) (.iface tn (.int k b))).run P w = .ok (a == b) w := by
  simp [Op.equalIn, run_underlying hi, run_underlying hn, typeInfo, hinfo, hcomp]
/-- Two interface values of one integer type are the same just as the numbers are. -/
theorem eql_codes {ti tn : TypeId} {ms : Array (String × TypeId)} {i : TypeInfo} {k : IntKind} (a b : Int)
    (hi : P.underlying ti = some (.interface ms)) (hn : P.underlying tn = some (.int k)) (hinfo : P.info? tn = some i) (hcomp : i.comparable = true) :
    (binOp .eql ti (.iface tn (.int k a)) (.iface tn (.int k b))).run P w = .ok (.bool (a == b)) w := by
  simp only [binOp]
  simp [Op.equal, Op.maxDepth, equalIn_codes w 9998 a b hi hn hinfo hcomp]
end

theorem codeTypeOf (v : Value) (w : World) : (callFunc 39 #[.iface 43 v]).run Tryd.prog w = .ok (.value (.iface 76 (.agg #[.pointer (some ⟨2, 43, none⟩)]))) w := by kernel_rfl
theorem codeComparable (w : World) : (callFunc 70 #[.agg #[.pointer (some ⟨2, 43, none⟩)]]).run Tryd.prog w = .ok (.value (.bool true)) w := by kernel_rfl
theorem rtypeComparable (v : Value) (w : World) : (Go.method 222 76 v "Comparable").run Tryd.prog w = .ok (70, v) w := by kernel_rfl
theorem codeInfo : (Tryd.prog.info? 43).map (·.comparable) = some true := by kernel_rfl

end Go.Proofs.YtioajdabiejhmaaDoor
