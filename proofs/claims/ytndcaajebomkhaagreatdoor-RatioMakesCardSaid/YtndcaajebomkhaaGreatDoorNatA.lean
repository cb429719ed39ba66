/- Layer 1 (nat): what its functions do to any numbers: trim, Plain, the library's Add64, Sub64, Mul64, Len64, Compare. -/
import Derived.Test.YtndcaajebomkhaaGreatDoorChecked
import Derived.Test.YtndcaajebomkhaaGreatDoorMem
import Derived.WalkSpells
import Derived.Shelf.Spec.BitsCarry
namespace Go.Proofs.YtndcaajebomkhaaGreatDoor
open Go.RowKit

/-- 2^64. -/
def W64 : Nat := 18446744073709551616
theorem two_le_W64 : 2 ≤ W64 := by unfold W64; omega
theorem W64_pos : 0 < W64 := by unfold W64; omega

theorem Tryz.numTy64 : NumTy Tryz.prog 22 53 .u64 8 := ⟨Tryz.underlying22, by kernel_rfl⟩

/-- math/bits.Add64. -/
theorem add64 (x y c : Nat) (hc : c ≤ 1) (w : World) : (callFunc 122 #[.int .u64 (x : Int), .int .u64 (y : Int), .int .u64 (c : Int)]).run Tryz.prog w =
    .ok (.value (.tuple #[.int .u64 (((x + y + c) % W64 : Nat) : Int), .int .u64 (((x + y + c) / W64 : Nat) : Int)])) w := by
  rw [run_callFunc_extern Tryz.func122 (by kernel_rfl) (by kernel_rfl) (by kernel_rfl) (e := add64Entry) (by kernel_rfl), run_add64 x y c (by omega) (by omega) (by omega) (by omega)]
  simp only [Result.andThen, W64]
  congr 5 <;> omega
/-- math/bits.Add64, nothing carried in. -/
theorem add64_0 (x y : Nat) (w : World) : (callFunc 122 #[.int .u64 (x : Int), .int .u64 (y : Int), .int .u64 0]).run Tryz.prog w =
    .ok (.value (.tuple #[.int .u64 (((x + y) % W64 : Nat) : Int), .int .u64 (((x + y) / W64 : Nat) : Int)])) w := by
  simpa using add64 x y 0 (by omega) w
/-- math/bits.Add64, of a number and nothing. -/
theorem add64_y (x c : Nat) (hc : c ≤ 1) (w : World) : (callFunc 122 #[.int .u64 (x : Int), .int .u64 0, .int .u64 (c : Int)]).run Tryz.prog w =
    .ok (.value (.tuple #[.int .u64 (((x + c) % W64 : Nat) : Int), .int .u64 (((x + c) / W64 : Nat) : Int)])) w := by
  simpa using add64 x 0 c hc w

/-- The borrow. -/
def bor (x y b : Nat) : Nat := if x < y + b then 1 else 0
theorem bor_le (x y b : Nat) : bor x y b ≤ 1 := by unfold bor; split <;> omega
/-- math/bits.Sub64. -/
theorem sub64 (x y b : Nat) (hb : b ≤ 1) (w : World) : (callFunc 88 #[.int .u64 (x : Int), .int .u64 (y : Int), .int .u64 (b : Int)]).run Tryz.prog w =
    .ok (.value (.tuple #[.int .u64 (((x + W64 - y - b) % W64 : Nat) : Int), .int .u64 ((bor x y b : Nat) : Int)])) w := by
  rw [run_callFunc_extern Tryz.func88 (by kernel_rfl) (by kernel_rfl) (by kernel_rfl) (e := sub64Entry) (by kernel_rfl), run_sub64 x y b hb]
  rfl

theorem trim_any {B : Nat} (p : Option Addr) (len cap : Nat) (zs : List Nat) (w : World) (h : len ≤ cap) (hl : len ≤ 1000000) (hr : Rd .u64 W64 B w p len zs) :
   Calls Tryz.prog 81 #[.slice p len cap] w fun e w' => e = .returned (.slice (cutp p (tl zs len)) (tl zs len) (tl zs len)) ∧ w = w' := by
  have hle := tl_le zs len
  go_enter Tryz.func81, Tryz.ntmps81
  go_wp2
  go_loop [3] (fun i => ∃ k : Nat, k ≤ len ∧ i = .int .i64 k ∧ Hid (tl zs len = tl zs k)) (fun i => (intOf i).toNat)
  case atStart => exact ⟨len, Nat.le_refl _, rfl, Lib.hid rfl⟩
  case round =>
    obtain ⟨k, hk, rfl, ht⟩ := hrel
    by_cases h0 : 0 < k
    · obtain ⟨b, off, rfl, _, hcell⟩ := hr.cell (k - 1) (by omega)
      have hk1 : 0 ≤ (k : Int) - 1 := by omega
      have hk2 : ((k : Int) - 1).toNat = k - 1 := by omega
      by_cases hz : nth zs (k - 1) = 0
      · have ht2 : Hid (tl zs len = tl zs (k - 1)) := Lib.hid (by rw [ht.out, tl_nought _ _ h0 hz])
        rw [hz] at hcell
        clear hz ht
        go_wp2
        go_round
        case rel => exact ⟨k - 1, by omega, by go_num, ht2⟩
        case measure => simp [intOf]; omega
      · have hp : 0 < nth zs (k - 1) := by omega
        have ht2 : Hid (tl zs len = k) := Lib.hid (by rw [ht.out, tl_top _ _ h0 hz])
        clear hz ht
        go_wp2
        go_ret
        exact ⟨by rw [ht2.out, cutp_pos _ _ (by omega)]; rfl, rfl⟩
    · go_wp2
      go_ret
      exact ⟨by obtain rfl : k = 0 := by omega
                rw [ht.out, tl_zero, cutp_zero]; rfl, rfl⟩

/-- What trim hands back: nil, or what was handed in, shorter. -/
def Trimmed (B : Nat) (w : World) (_p : Option Addr) (len : Nat) (zs : List Nat) (e : Ending) (w' : World) : Prop :=
  ∃ q n, e = .returned (.slice q n n) ∧ n ≤ len ∧ (q = none → n = 0) ∧ Rd .u64 W64 B w q n (digs W64 (val W64 zs)) ∧ w = w'

theorem trim_val {B : Nat} (p : Option Addr) (len cap : Nat) (zs : List Nat) (w : World) (h : len ≤ cap) (hl : len ≤ 1000000) (hr : Rd .u64 W64 B w p len zs) :
   Calls Tryz.prog 81 #[.slice p len cap] w (Trimmed B w p len zs) := by
  refine (trim_any p len cap zs w h hl hr).mono ?_
  rintro e w' ⟨rfl, rfl⟩
  have ht := hr.trim two_le_W64
  exact ⟨_, _, rfl, tl_le _ _, fun h => by rw [h] at ht; exact ht.none, ht, rfl⟩

/-- What trim hands back, and where it lies. -/
def TrimmedP (B : Nat) (w : World) (p : Option Addr) (len : Nat) (zs : List Nat) (e : Ending) (w' : World) : Prop :=
  ∃ q n, e = .returned (.slice q n n) ∧ n ≤ len ∧ (q = none → n = 0) ∧ (q = none ∨ q = p) ∧ Rd .u64 W64 B w q n (digs W64 (val W64 zs)) ∧ w = w'

theorem trim_at {B : Nat} (p : Option Addr) (len cap : Nat) (zs : List Nat) (w : World) (h : len ≤ cap) (hl : len ≤ 1000000) (hr : Rd .u64 W64 B w p len zs) :
   Calls Tryz.prog 81 #[.slice p len cap] w (TrimmedP B w p len zs) := by
  refine (trim_any p len cap zs w h hl hr).mono ?_
  rintro e w' ⟨rfl, rfl⟩
  have ht := hr.trim two_le_W64
  exact ⟨_, _, rfl, tl_le _ _, fun h => by rw [h] at ht; exact ht.none, (cutp_or p (tl zs len)).imp And.left id, ht, rfl⟩

/-- A number comes back, plain, in whatever memory; what was there is as it was. -/
def Gives (k : IntKind) (β : Nat) (w : World) (n : Nat) (e : Ending) (w' : World) : Prop :=
  ∃ q m c, e = .returned (.slice q m c) ∧ m ≤ c ∧ (q = none → c = 0) ∧ Rd k β w'.heap.size w' q m (digs β n) ∧ Below w.heap.size w w'

/-- .. beside no error. -/
def Gives2 (k : IntKind) (β : Nat) (w : World) (n : Nat) (e : Ending) (w' : World) : Prop :=
  ∃ q m c, e = .returned (.tuple #[.slice q m c, .nilIface]) ∧ m ≤ c ∧ (q = none → c = 0) ∧ Rd k β w'.heap.size w' q m (digs β n) ∧ Below w.heap.size w w'
/-- .. in new memory. -/
def Gives2F (k : IntKind) (β : Nat) (w : World) (n : Nat) (e : Ending) (w' : World) : Prop :=
  ∃ q m c, e = .returned (.tuple #[.slice q m c, .nilIface]) ∧ m ≤ c ∧ (q = none → c = 0) ∧ Rd k β w'.heap.size w' q m (digs β n) ∧ Below w.heap.size w w' ∧ (∀ a, q = some a → w.heap.size ≤ a.block)
/-- .. without spare room. -/
def Gives2T (k : IntKind) (β : Nat) (w : World) (n : Nat) (e : Ending) (w' : World) : Prop :=
  ∃ q m, e = .returned (.tuple #[.slice q m m, .nilIface]) ∧ (q = none → m = 0) ∧ Rd k β w'.heap.size w' q m (digs β n) ∧ Below w.heap.size w w'
/-- No number, and a code. -/
def Fails (w : World) (code : Int) (e : Ending) (w' : World) : Prop :=
  e = .returned (.tuple #[.slice none 0 0, .iface 73 (.int .i64 code)]) ∧ Below w.heap.size w w'

/-- A number comes back, plain, in a row of its own. -/
def Owns (w : World) (n : Nat) (e : Ending) (w' : World) : Prop :=
  ∃ q m c, e = .returned (.slice q m c) ∧ w'.ownsRow w.heap.size 53 1 (.slice q m c) m (ints .u64 (digs W64 n)) ∧ Below w.heap.size w w'

set_option maxHeartbeats 400000 in
theorem plain_own {B : Nat} (p : Option Addr) (len cap : Nat) (zs : List Nat) (w : World) (h : len ≤ cap) (hl : len ≤ 1000000) (hr : Rd .u64 W64 B w p len zs) :
   Calls Tryz.prog 50 #[.slice p len cap] w (Owns w (val W64 zs)) := by
  go_enter Tryz.func50, Tryz.ntmps50
  go_wp2_with fail
  refine (trim_val p len cap zs w h hl hr).mono ?_
  rintro e w' ⟨q, n, rfl, hn, hq, hR, rfl⟩
  go_wp2_with (at_builtin; refine wpl_append_nums Tryz.numTy64 rfl _ _ rfl w.heap.size 0 (.slice none 0 0) [] rfl (World.ownsRow_nil _ _ _ _) q n n _ rfl hR (by assumption) (by omega) (by omega) (Nat.le_refl _) ?_)
  intro p' cap' w' hown hgrow
  have hb : Below w.heap.size w w' := (Below.refl _ _).grown hgrow (Nat.le_refl _) (fun k hk => by simp [Value.ownBlock] at hk)
  go_wp2
  go_ret
  exact ⟨_, _, _, rfl, by simpa using hown, hb⟩
theorem plain_any {B : Nat} (p : Option Addr) (len cap : Nat) (zs : List Nat) (w : World) (h : len ≤ cap) (hl : len ≤ 1000000) (hr : Rd .u64 W64 B w p len zs) :
   Calls Tryz.prog 50 #[.slice p len cap] w (Gives .u64 W64 w (val W64 zs)) := by
  refine (plain_own p len cap zs w h hl hr).mono ?_
  rintro e w' ⟨q, m, c, rfl, hown, hb⟩
  exact ⟨_, _, _, rfl, owns_room hown, owns_nil hown, owns_rd hown (Nat.le_refl _) (fun i _ => digs_word two_le_W64 _ _), hb⟩
end Go.Proofs.YtndcaajebomkhaaGreatDoor
