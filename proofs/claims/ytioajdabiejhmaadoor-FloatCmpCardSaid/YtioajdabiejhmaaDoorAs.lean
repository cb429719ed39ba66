/- errors.As over api.Code: a code is found, and handed over; Code of an error. After the guide's worked toy. -/
import Derived.Test.YtioajdabiejhmaaDoorErr
namespace Go.Proofs.YtioajdabiejhmaaDoor
open Go.RowKit Go.Extern.Stop Go.Stop Go.Extern

theorem asValueOfPtr (t : Addr) (w : World) : (callFunc 29 #[.iface 47 (.pointer (some t))]).run Tryd.prog w
    = .ok (.value (.agg #[.pointer (some ⟨2, 47, none⟩), .pointer (some ⟨w.heap.size, 0, none⟩), .int .u64 150])) (w.alloc (.cells #[.pointer (some t)] 47)) := by kernel_rfl
theorem asValueOfCode (e : Int) (w : World) : (callFunc 29 #[.iface 43 (.int .i64 e)]).run Tryd.prog w
    = .ok (.value (.agg #[.pointer (some ⟨2, 43, none⟩), .pointer (some ⟨w.heap.size, 0, none⟩), .int .u64 130])) (w.alloc (.cells #[.int .i64 e] 43)) := by kernel_rfl
theorem asType (a : Addr) (w : World) : (callFunc 30 #[.agg #[.pointer (some ⟨2, 47, none⟩), .pointer (some a), .int .u64 150]]).run Tryd.prog w
    = .ok (.value (.iface 76 (.agg #[.pointer (some ⟨2, 47, none⟩)]))) w := by kernel_rfl
theorem asMethodKind (h : Value) (w : World) : (Go.method 222 76 (.agg #[h]) "Kind").run Tryd.prog w = .ok (61, h) w := by kernel_rfl
theorem asKindPtr (w : World) : (callFunc 61 #[.pointer (some ⟨2, 47, none⟩)]).run Tryd.prog w = .ok (.value (.int .u8 22)) w := by kernel_rfl
theorem asKindCode (w : World) : (callFunc 61 #[.pointer (some ⟨2, 43, none⟩)]).run Tryd.prog w = .ok (.value (.int .u8 2)) w := by kernel_rfl
theorem asMethodElem (h : Value) (w : World) : (Go.method 222 76 (.agg #[h]) "Elem").run Tryd.prog w = .ok (71, .agg #[h]) w := by kernel_rfl
theorem asMethodImplements (h : Value) (w : World) : (Go.method 222 76 (.agg #[h]) "Implements").run Tryd.prog w = .ok (72, .agg #[h]) w := by kernel_rfl
theorem asMethodAssignable (h : Value) (w : World) : (Go.method 222 76 (.agg #[h]) "AssignableTo").run Tryd.prog w = .ok (69, .agg #[h]) w := by kernel_rfl
theorem asElem (w : World) : (callFunc 71 #[.agg #[.pointer (some ⟨2, 47, none⟩)]]).run Tryd.prog w = .ok (.value (.iface 76 (.agg #[.pointer (some ⟨2, 43, none⟩)]))) w := by kernel_rfl
theorem asImplements (w : World) : (callFunc 72 #[.agg #[.pointer (some ⟨2, 43, none⟩)], .iface 76 (.agg #[.pointer (some ⟨2, 25, none⟩)])]).run Tryd.prog w = .ok (.value (.bool true)) w := by kernel_rfl
theorem asAssignable (w : World) : (callFunc 69 #[.agg #[.pointer (some ⟨2, 43, none⟩)], .iface 76 (.agg #[.pointer (some ⟨2, 43, none⟩)])]).run Tryd.prog w = .ok (.value (.bool true)) w := by kernel_rfl

theorem asParts (a : Addr) (w : World) : (ReflectliteValue.parts (.agg #[.pointer (some ⟨2, 47, none⟩), .pointer (some a), .int .u64 150])).run Tryd.prog w = .ok (some (47, a, 150)) w := by kernel_rfl
theorem asIsNil (a p : Addr) (W : World) (ha : W.cell? a = some (.pointer (some p))) :
    (ReflectliteValue.method (ReflectliteValue.valueError "reflectlite.Value.IsNil" 0) ReflectliteValue.isNil #[.agg #[.pointer (some ⟨2, 47, none⟩), .pointer (some a), .int .u64 150]]).run Tryd.prog W = .ok (.bool false) W := by
  rw [show ∀ (z : Sem Value) (f : TypeId → Addr → Nat → Nat → Sem Value) (v : Value), ReflectliteValue.method z f #[v] = ReflectliteValue.parts v >>= _ from fun _ _ _ => rfl]
  simp only [Sem.run_bind, asParts, Result.andThen]
  simp [ReflectliteValue.isNil, loadVar, isAgg, underlying, Tryd.underlying47, ha, Result.andThen]
theorem asElemOf (w : World) : (Rtype.elem? 47).run Tryd.prog w = .ok (some 43) w := by kernel_rfl
theorem asMk (p : Addr) (w : World) : (ReflectliteValue.mk 43 p ReflectliteValue.flagAddr).run Tryd.prog w = .ok (.agg #[.pointer (some ⟨2, 43, none⟩), .pointer (some p), .int .u64 386]) w := by kernel_rfl
theorem asElemV (a p : Addr) (W : World) (ha : W.cell? a = some (.pointer (some p))) :
    (ReflectliteValue.method (ReflectliteValue.valueError "reflectlite.Value.Elem" 0) ReflectliteValue.elem #[.agg #[.pointer (some ⟨2, 47, none⟩), .pointer (some a), .int .u64 150]]).run Tryd.prog W
      = .ok (.agg #[.pointer (some ⟨2, 43, none⟩), .pointer (some p), .int .u64 386]) W := by
  rw [show ∀ (z : Sem Value) (f : TypeId → Addr → Nat → Nat → Sem Value) (v : Value), ReflectliteValue.method z f #[v] = ReflectliteValue.parts v >>= _ from fun _ _ _ => rfl]
  simp only [Sem.run_bind, asParts, Result.andThen]
  simp [ReflectliteValue.elem, loadVar, isAgg, underlying, Tryd.underlying47, ha, Result.andThen, asElemOf, asMk]
theorem asPartsA (a : Addr) (w : World) : (ReflectliteValue.parts (.agg #[.pointer (some ⟨2, 43, none⟩), .pointer (some a), .int .u64 386])).run Tryd.prog w = .ok (some (43, a, 386)) w := by kernel_rfl
theorem asPartsB (a : Addr) (w : World) : (ReflectliteValue.parts (.agg #[.pointer (some ⟨2, 43, none⟩), .pointer (some a), .int .u64 130])).run Tryd.prog w = .ok (some (43, a, 130)) w := by kernel_rfl
theorem asDirect (w : World) : (Rtype.directlyAssignable 43 43).run Tryd.prog w = .ok true w := by kernel_rfl
theorem asSet (ta b : Addr) (e : Int) (old : Value) (W : World) (hb : W.cell? b = some (.int .i64 e)) (ht : W.cell? ta = some old) (hf : W.frozen? ta = false) :
    (ReflectliteValue.set #[.agg #[.pointer (some ⟨2, 43, none⟩), .pointer (some ta), .int .u64 386], .agg #[.pointer (some ⟨2, 43, none⟩), .pointer (some b), .int .u64 130]]).run Tryd.prog W
      = .ok (.tuple #[]) (W.setCell ta (.int .i64 e)) := by
  rw [show ∀ v x : Value, ReflectliteValue.set #[v, x] = ReflectliteValue.parts v >>= _ from fun _ _ => rfl]
  simp only [Sem.run_bind, Array.getLit, List.getElem_toArray, List.getElem_cons_succ, List.getElem_cons_zero, asPartsA, asPartsB, Result.andThen]
  simp [ReflectliteValue.flagAddr, loadVar, isAgg, underlying, Tryd.underlying43, hb, Result.andThen, asDirect, storeVar, Value.cells, storeCells, Addr.add]
  rw [run_store Tryd.prog W ta _ _ (by rfl)]
  simp [ht, hf]

/-- What package errors' own variable holds: the type error. -/
def ErrVar (w : World) : Prop := w.cell? ⟨1, 0, none⟩ = some (.iface 76 (.agg #[.pointer (some ⟨2, 25, none⟩)]))
theorem ErrVar.lt {w : World} (h : ErrVar w) : 1 < w.heap.size := by
  unfold ErrVar at h
  rcases Nat.lt_or_ge 1 w.heap.size with h0 | h0
  · exact h0
  · simp [World.cell?, Array.getElem?_eq_none h0] at h
theorem ErrVar.below {w w' : World} (h : ErrVar w) (hb : Below w.heap.size w w') : ErrVar w' := by
  have := h.lt
  unfold ErrVar at *
  rw [hb.cell (p := ⟨1, 0, none⟩) this]; exact h

set_option maxHeartbeats 4000000 in
/-- errors.As of a code, at a code: it is handed over. -/
theorem as_code (e : Int) (t : Addr) (old : Value) (w : World) (hg : ErrVar w) (ht0 : w.cell? t = some old) (hf0 : w.frozen? t = false) :
    Calls Tryd.prog 20 #[.iface 43 (.int .i64 e), .iface 47 (.pointer (some t))] w fun ev w' => ev = .returned (.bool true) ∧
      w' = ((((w.alloc (.cells #[.pointer (some t)] 47)).alloc (.cells #[.pointer (some ⟨2, 47, none⟩), .pointer (some ⟨w.heap.size, 0, none⟩), .int .u64 150] 60)).alloc (.cells #[.pointer (some ⟨2, 47, none⟩), .pointer (some ⟨w.heap.size, 0, none⟩), .int .u64 150] 60)).alloc (.cells #[.int .i64 e] 43)).setCell t (.int .i64 e) := by
  have hlt := hg.lt
  have hg0 : w.cell? ⟨1, 0, none⟩ = some (.iface 76 (.agg #[.pointer (some ⟨2, 25, none⟩)])) := hg
  have h8 := @run_callFunc_extern Tryd.prog 31 _ (ReflectliteValue.method (ReflectliteValue.valueError "reflectlite.Value.IsNil" 0) ReflectliteValue.isNil) Tryd.func31 (by kernel_rfl) (by kernel_rfl) (by kernel_rfl) (by kernel_rfl)
  have h11 := @run_callFunc_extern Tryd.prog 40 _ (ReflectliteValue.method (ReflectliteValue.valueError "reflectlite.Value.Elem" 0) ReflectliteValue.elem) Tryd.func40 (by kernel_rfl) (by kernel_rfl) (by kernel_rfl) (by kernel_rfl)
  have h12 := @run_callFunc_extern Tryd.prog 41 _ ReflectliteValue.set Tryd.func41 (by kernel_rfl) (by kernel_rfl) (by kernel_rfl) (by kernel_rfl)
  have tO := codeTypeOf
  have mA := asMethodAssignable
  have aC := asAssignable
  have vC := asValueOfCode
  have vP := asValueOfPtr
  have tP := asType
  have mK := asMethodKind
  have mE := asMethodElem
  have mI := asMethodImplements
  have kP := asKindPtr
  have kC := asKindCode
  have eP := asElem
  have iC := asImplements
  have htl : t.block < w.heap.size := by
    rcases Nat.lt_or_ge t.block w.heap.size with h | h
    · exact h
    · simp [World.cell?, Array.getElem?_eq_none h] at ht0
  obtain ⟨A1, hA1⟩ : ∃ A1 : Obj, A1 = .cells #[.pointer (some t)] 47 := ⟨_, rfl⟩
  obtain ⟨A2, hA2⟩ : ∃ A2 : Obj, A2 = .cells #[.pointer (some ⟨2, 47, none⟩), .pointer (some ⟨w.heap.size, 0, none⟩), .int .u64 150] 60 := ⟨_, rfl⟩
  have n8 := asIsNil ⟨w.heap.size, 0, none⟩ t ((w.alloc A1).alloc A2) (by rw [hA1, hA2]; simp)
  have hg2 : ((w.alloc A1).alloc A2).cell? ⟨1, 0, none⟩ = some (.iface 76 (.agg #[.pointer (some ⟨2, 25, none⟩)])) := by
    rw [World.cell?_alloc_lt _ _ ⟨1, 0, none⟩ (by first | (simp; done) | (simp; omega)), World.cell?_alloc_lt _ _ ⟨1, 0, none⟩ hlt]; exact hg0
  have el := asElemV ⟨w.heap.size, 0, none⟩ t (((w.alloc A1).alloc A2).alloc A2) (by rw [World.cell?_alloc_lt _ _ ⟨w.heap.size, 0, none⟩ (by first | (simp; done) | (simp; omega)), hA1, hA2]; simp)
  have st := asSet t ⟨w.heap.size + 1 + 1 + 1, 0, none⟩ e old ((((w.alloc A1).alloc A2).alloc A2).alloc (.cells #[.int .i64 e] 43))
    (by rw [World.cell?_alloc_at _ _ _ _ (by simp)]; rfl)
    (by rw [World.cell?_alloc_lt _ _ t (by simp; omega), World.cell?_alloc_lt _ _ t (by simp; omega), World.cell?_alloc_lt _ _ t (by simp; omega), World.cell?_alloc_lt _ _ t htl]; exact ht0)
    (by rw [World.frozen?_alloc_old _ _ t (by simp; omega), World.frozen?_alloc_old _ _ t (by simp; omega), World.frozen?_alloc_old _ _ t (by simp; omega), World.frozen?_alloc_old _ _ t (Nat.ne_of_lt htl)]; exact hf0)
  subst hA1 hA2
  clear hg
  go_enter Tryd.func20, Tryd.ntmps20
  go_wp2
  refine wp_loop_rounds 1 ?_
  rw [rounds_succ]
  go_wp2
  go_ret
  exact ⟨rfl, rfl⟩

theorem code_nil (w : World) : Calls Tryd.prog 10 #[.nilIface] w fun e w' => e = .returned (.int .i64 0) ∧ w = w' := by
  go_enter Tryd.func10, Tryd.ntmps10
  go_wp2
  go_ret
  exact ⟨rfl, rfl⟩

set_option maxHeartbeats 1000000 in
theorem code_hit (c : Int) (hc : 0 < c) (_hc2 : c ≤ 100) (w : World) (hg : ErrVar w) : Calls Tryd.prog 10 #[.iface 43 (.int .i64 c)] w fun e w' => e = .returned (.int .i64 c) ∧ Below w.heap.size w w' := by
  have hgA : ErrVar (w.alloc (.cells #[.int .i64 0] 43)) := hg.below ((Below.refl _ _).alloc (Nat.le_refl _) _)
  have htA : (w.alloc (.cells #[.int .i64 0] 43)).cell? ⟨w.heap.size, 0, none⟩ = some (.int .i64 0) := by simp
  have hfA : (w.alloc (.cells #[.int .i64 0] 43)).frozen? ⟨w.heap.size, 0, none⟩ = false := by simp
  go_enter Tryd.func10, Tryd.ntmps10
  go_wp2_with (go_at_call 20; refine (as_code c _ (.int .i64 0) _ hgA htA hfA).mono ?_; rintro e w' ⟨rfl, rfl⟩)
  go_ret
  refine ⟨rfl, ?_⟩
  repeat (first | exact Below.refl _ _ | refine Below.setCell ?_ (by first | exact Nat.le_refl _ | (simp; done)) _ | refine Below.alloc ?_ (by first | exact Nat.le_refl _ | (simp; done) | (simp; omega)) _)
end Go.Proofs.YtioajdabiejhmaaDoor
