/- Rows that the call made: cells stored one behind the other; clear and copy. errors.Is of nil. -/
import Derived.Test.YtndcaajebomkhaaGreatDoorSplitA
import Derived.Test.YtndcaajebomkhaaGreatDoorErr
import Derived.ScopeJumps
import Derived.WalkMore
import Derived.Laws.CopyRow
namespace Go.Proofs.YtndcaajebomkhaaGreatDoor
open Go.RowKit

/-- Cells stored into a row that the call made, one behind the other. -/
theorem Row.stored {P : Program} {w : World} {g : Nat} {e : TypeId} {N : Nat} {f : Nat → Value} (h : Row w g e N f) (off : Nat) (vs : List Value) (hv : off + vs.length ≤ N) (h1 : ∀ v ∈ vs, v.oneCell' = true) :
    ∃ w', (storeCells ⟨g, off, none⟩ vs 0).run P w = .ok () w' ∧ Row w' g e N (fun j => if off ≤ j ∧ j < off + vs.length then vs.getD (j - off) undef else f j) ∧ w.grownBy w' (some g) := by
  obtain ⟨cur, hg, hs, hf⟩ := h
  have hr := run_storeCells_at P g off e vs 0 cur w hg (by omega) h1
  refine ⟨_, hr, ⟨_, setRow_heap w g cur _ e _ hg, ?_, ?_⟩, ⟨rfl, rfl, rfl, by simp [World.setRow], fun k _ hk => setRow_other w g k _ (fun e => hk (by simp [e]))⟩⟩
  · simp; omega
  · intro j hj
    have hc := hf j hj
    rw [List.getElem?_toArray, Nat.add_zero]
    dsimp only
    have hlc : cur.toList.length = N := by simpa using hs
    by_cases h1 : j < off
    · rw [List.append_assoc, List.getElem?_append_left (by rw [List.length_take]; omega), List.getElem?_take, if_pos h1, if_neg (by omega)]
      simpa using hc
    · by_cases h2 : j < off + vs.length
      · rw [if_pos ⟨by omega, h2⟩, List.append_assoc, List.getElem?_append_right (by rw [List.length_take]; omega), List.length_take, Nat.min_eq_left (by omega), List.getElem?_append_left (by omega)]
        simp [show j - off < vs.length by omega]
      · rw [if_neg (by omega), List.getElem?_append_right (by rw [List.length_append, List.length_take]; omega), List.length_append, List.length_take, Nat.min_eq_left (by omega), List.getElem?_drop, show off + vs.length + (j - (off + vs.length)) = j by omega]
        simpa using hc

theorem zeroU64 (w : World) : (zeroValue 53).run Tryz.prog w = .ok (.int .u64 0) w := Tryz.zeroValue53 w

/-- 'clear(part)', part a window of a row that the call made. -/
theorem Row.cleared {w : World} {g : Nat} {N : Nat} {f : Nat → Value} (h : Row w g 53 N f) (off n cap : Nat) (hv : off + n ≤ N) (hn : 0 < n) :
    ∃ w', (∀ ty, (Builtin.clear_ #[22] ty #[.slice (some ⟨g, off, none⟩) n cap]).run Tryz.prog w = .ok (.tuple #[]) w') ∧ Row w' g 53 N (fun j => if off ≤ j ∧ j < off + n then .int .u64 0 else f j) ∧ w.grownBy w' (some g) := by
  obtain ⟨w', hr, hrow, hgr⟩ := h.stored (P := Tryz.prog) off (List.replicate n (.int .u64 0)) (by simpa using hv) (by intro v hv; rw [List.eq_of_mem_replicate hv]; rfl)
  refine ⟨w', fun ty => ?_, hrow.congr (fun j hj => ?_), hgr⟩
  · obtain ⟨m, rfl⟩ : ∃ m, n = m + 1 := ⟨n - 1, by omega⟩
    have hz : (Builtin.zeroCells (Value.int .u64 0).cells (m + 1)).toList = List.replicate (m + 1) (Value.int .u64 0) := by
      rw [show (Value.int .u64 0).cells = #[.int .u64 0] from rfl]
      simp [Builtin.zeroCells]
      apply List.ext_getElem
      · simp
      · intro i h1 h2
        simp [Nat.mod_one]
    simp [Builtin.clear_, run_underlying Tryz.underlying22, zeroU64, hz, hr, Result.andThen]
  · rw [List.length_replicate]
    split
    · rename_i h2
      simp [show j - off < n by omega]
    · rfl

/-- 'copy(part, left)', likewise. -/
theorem Row.copied {w : World} {g : Nat} {N : Nat} {f : Nat → Value} (h : Row w g 53 N f) {β B : Nat} (off n cap : Nat) (hv : off + n ≤ N) (q : Option Addr) (m c : Nat) (zs : List Nat) (hR : Rd .u64 β B w q m zs) (hq : q = none → c = 0) (hm : m ≤ n) :
    ∃ w', (∀ ty, (Builtin.copy_ #[22, 22] ty #[.slice (some ⟨g, off, none⟩) n cap, .slice q m c]).run Tryz.prog w = .ok (.int .i64 (m : Int)) w') ∧ Row w' g 53 N (fun j => if off ≤ j ∧ j < off + m then .int .u64 ((nth zs (j - off) : Nat) : Int) else f j) ∧ w.grownBy w' (some g) := by
  have hs : (Tryz.prog.info? 53).map (·.size) = some 1 := by kernel_rfl
  cases q with
  | none =>
    obtain rfl := hR.none
    obtain rfl := hq rfl
    refine ⟨w, fun ty => ?_, h.congr (fun j hj => by rw [if_neg (by omega)]), World.grownBy.refl _ _⟩
    have := run_copy_nil (P := Tryz.prog) w 22 22 ty 53 ⟨g, off, none⟩ n cap Tryz.underlying22 (by cases hq : Tryz.prog.info? 53 <;> simp [hq] at hs ⊢)
    rw [this]; rfl
  | some a =>
    obtain ⟨cur, hg, hsz, hf⟩ := h
    have hl : (ints .u64 zs).length = m := by rw [ints_length, hR.count]
    have hr := fun ty => run_copy_row Tryz.prog w 22 22 ty 53 g off n cap a m c cur 53 (ints .u64 zs) Tryz.underlying22 hs hg (by rw [hl]; exact (Nat.min_eq_left hm).symm)
      (fun j u hj => by
        have hj' : j < m := by
          have := (List.getElem?_eq_some_iff.1 hj).1
          omega
        obtain ⟨b, o, h1, h2, h3⟩ := hR.cell j hj'
        rw [ints_at _ _ _ (by rw [hR.count]; exact hj')] at hj
        obtain rfl := Option.some.inj h1
        rw [addr_add_lit, h3, hj]) (by rw [hl]; omega) (ints_one _ _)
    have hrow : Row (w.setRow g (cur.toList.take off ++ ints .u64 zs ++ cur.toList.drop (off + (ints .u64 zs).length)).toArray) g 53 N (fun j => if off ≤ j ∧ j < off + m then .int .u64 ((nth zs (j - off) : Nat) : Int) else f j) := by
      refine ⟨_, setRow_heap w g cur _ _ _ hg, ?_, ?_⟩
      · simp [hl]; omega
      · intro j hj
        have hc := hf j hj
        rw [List.getElem?_toArray]
        dsimp only
        have hlc : cur.toList.length = N := by simpa using hsz
        by_cases h1 : j < off
        · rw [List.append_assoc, List.getElem?_append_left (by rw [List.length_take]; omega), List.getElem?_take, if_pos h1, if_neg (by omega)]
          simpa using hc
        · by_cases h2 : j < off + m
          · rw [if_pos ⟨by omega, h2⟩, List.append_assoc, List.getElem?_append_right (by rw [List.length_take]; omega), List.length_take, Nat.min_eq_left (by omega), List.getElem?_append_left (by omega)]
            rw [ints_at _ _ _ (by rw [hR.count]; omega)]
          · rw [if_neg (by omega), List.getElem?_append_right (by rw [List.length_append, List.length_take]; omega), List.length_append, List.length_take, Nat.min_eq_left (by omega), hl, List.getElem?_drop, show off + m + (j - (off + m)) = j by omega]
            simpa using hc
    refine ⟨_, fun ty => by rw [hr ty, hl]; rfl, hrow, ⟨rfl, rfl, rfl, by simp [World.setRow], fun k _ hk => setRow_other w g k _ (fun e => hk (by simp [e]))⟩⟩

theorem eql_nil_code {P : Program} (w : World) {ti tn : TypeId} {ms : Array (String × TypeId)} {v : Value}
    (hi : P.underlying ti = some (.interface ms)) : (binOp .eql ti .nilIface (.iface tn v)).run P w = .ok (.bool false) w := by
  have h : ∀ d, (Op.equalIn (d + 2) ti .nilIface (.iface tn v)).run P w = .ok false w := fun d => by simp [Op.equalIn, run_underlying hi]
  simp only [binOp]
  simp [Op.equal, Op.maxDepth, h 9998]
/-- errors.Is(nil, c). -/
theorem is_nil (c : Int) (w : World) :
    Calls Tryz.prog 110 #[.nilIface, .iface 73 (.int .i64 c)] w fun e w' => e = .returned (.bool false) ∧ w = w' := by
  have heq := eql_nil_code (P := Tryz.prog) w (tn := 73) (v := .int .i64 c) Tryz.underlying31
  go_enter Tryz.func110, Tryz.ntmps110
  go_wp2
  go_ret
  exact ⟨rfl, rfl⟩
end Go.Proofs.YtndcaajebomkhaaGreatDoor
