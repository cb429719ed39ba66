/- The table of math/bits stays where old memory stays. -/
import Derived.Test.YtioajdabiejhmaaDoorLibB
import Derived.Test.YtioajdabiejhmaaDoorMem
namespace Go.Proofs.YtioajdabiejhmaaDoor
open Go.RowKit

theorem TabVar.below {w w' : World} (h : TabVar w) (hb : Below w.heap.size w w') : TabVar w' := fun j hj => by
  have h0 := h j hj
  have hlt : 0 < w.heap.size := by
    rcases Nat.lt_or_ge 0 w.heap.size with h' | h'
    · exact h'
    · simp [World.cell?, Array.getElem?_eq_none h'] at h0
  rw [hb.cell (p := ⟨0, j, none⟩) hlt]; exact h0
end Go.Proofs.YtioajdabiejhmaaDoor
