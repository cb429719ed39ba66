/- strconv.ParseUint of a short row of digits, by the shelf's contract, laid at this program in plain words. -/
import Derived.Test.YtndcaajebomkhaaGreatDoorLibB
import Derived.Test.YtndcaajebomkhaaGreatDoorDec
import Derived.Shelf.Pu.ParseUintPublic10
import Derived.Lib.SmallJoins
namespace Go.Proofs.YtndcaajebomkhaaGreatDoor
open Go.Shelf Go.RowKit
theorem decVal_lt {k : Nat} (v : Nat) (l : List UInt8) (h : ∀ c ∈ l, isDig c) (hv : v < 10 ^ k) : decVal v l < 10 ^ (k + l.length) := by
  induction l generalizing v k with
  | nil => rw [decVal_nil]; exact hv
  | cons c r ih =>
    have hc := h c (by simp)
    have h2 := hc.1
    have h3 := hc.2
    rw [decVal_cons, List.length_cons, show k + (r.length + 1) = (k + 1) + r.length by omega]
    exact ih _ (fun d hd => h d (by simp [hd])) (by rw [Nat.pow_succ]; omega)
theorem decVal_shift (v : Nat) (l : List UInt8) : decVal v l = v * 10 ^ l.length + decVal 0 l := by
  induction l generalizing v with
  | nil => rw [decVal_nil, decVal_nil]; simp
  | cons c r ih =>
    rw [decVal_cons, decVal_cons, ih, ih (10 * 0 + _), List.length_cons, Nat.pow_succ, Nat.add_mul, Nat.add_mul]
    have e1 : 10 * v * 10 ^ r.length = v * (10 ^ r.length * 10) := by rw [Nat.mul_comm 10 v, Nat.mul_assoc, Nat.mul_comm 10]
    omega
theorem pow_step {k m : Nat} (h : k ≤ m) : 10 ^ k ≤ 10 ^ m := Nat.pow_le_pow_right (by omega) h
theorem parse_row (l : List UInt8) (k acc : Nat) (h : ∀ c ∈ l, isDig c) (hk : acc < 10 ^ k) (h19 : l.length + k ≤ 19) : Lib.parseUintM 18446744073709551615 acc l = .ok (decVal acc l) := by
  induction l generalizing k acc with
  | nil => rw [decVal_nil]; rfl
  | cons c r ih =>
    have hc := h c (by simp)
    have h2 := hc.1
    have h3 := hc.2
    have h4 : acc < 10 ^ 18 := Nat.lt_of_lt_of_le hk (pow_step (by simp at h19; omega))
    rw [Lib.parseUintM, if_pos ⟨h2, h3⟩, if_neg (by omega), if_neg (by omega), decVal_cons, Nat.mul_comm acc 10]
    exact ih (k + 1) _ (fun d hd => h d (by simp [hd])) (by rw [Nat.pow_succ]; omega) (by simp at h19; omega)

def lays14_ren : Go.Shelf.Ren := ⟨fun | 14 => 68 | 16 => 98 | 17 => 99 | 19 => 116 | 20 => 117 | 21 => 118 | 22 => 119 | 23 => 120 | 24 => 121 | 25 => 125 | 26 => 126 | 27 => 127 | 28 => 128 | 29 => 129 | 30 => 91 | 31 => 92 | 32 => 93 | 33 => 94 | 34 => 111 | 35 => 89 | 36 => 112 | 37 => 113 | 38 => 114 | 39 => 124 | 40 => 87 | n => n, fun | 0 => 0 | 2 => 2 | 3 => 3 | 4 => 4 | 5 => 5 | 9 => 9 | 20 => 20 | 21 => 21 | 22 => 53 | 24 => 31 | 67 => 68 | 25 => 106 | 34 => 167 | 36 => 101 | 37 => 60 | 39 => 169 | 44 => 176 | 47 => 105 | 48 => 182 | 50 => 184 | 52 => 132 | 55 => 134 | 59 => 163 | 60 => 75 | 61 => 164 | 65 => 181 | 66 => 160 | n => n, fun | 0 => 6 | 1 => 7 | 2 => 4 | 3 => 8 | 4 => 3 | n => n⟩
theorem lays14 : Go.Proofs.LaysPu.n14 Tryz.prog lays14_ren := {
  mixed := by kernel_rfl
  f14 := Tryz.func68.trans (congrArg some (by kernel_rfl))
  f16 := Tryz.func98.trans (congrArg some (by kernel_rfl))
  f17 := Tryz.func99.trans (congrArg some (by kernel_rfl))
  f19 := Tryz.func116.trans (congrArg some (by kernel_rfl))
  f20 := Tryz.func117.trans (congrArg some (by kernel_rfl))
  f21 := Tryz.func118.trans (congrArg some (by kernel_rfl))
  f22 := Tryz.func119.trans (congrArg some (by kernel_rfl))
  f23 := Tryz.func120.trans (congrArg some (by kernel_rfl))
  f24 := Tryz.func121.trans (congrArg some (by kernel_rfl))
  f25 := Tryz.func125.trans (congrArg some (by kernel_rfl))
  f26 := Tryz.func126.trans (congrArg some (by kernel_rfl))
  f27 := Tryz.func127.trans (congrArg some (by kernel_rfl))
  f28 := Tryz.func128.trans (congrArg some (by kernel_rfl))
  f29 := Tryz.func129.trans (congrArg some (by kernel_rfl))
  f30 := Tryz.func91.trans (congrArg some (by kernel_rfl))
  f31 := Tryz.func92.trans (congrArg some (by kernel_rfl))
  f32 := Tryz.func93.trans (congrArg some (by kernel_rfl))
  f33 := Tryz.func94.trans (congrArg some (by kernel_rfl))
  f34 := Tryz.func111.trans (congrArg some (by kernel_rfl))
  f35 := Tryz.func89.trans (congrArg some (by kernel_rfl))
  f36 := Tryz.func112.trans (congrArg some (by kernel_rfl))
  f37 := Tryz.func113.trans (congrArg some (by kernel_rfl))
  f38 := Tryz.func114.trans (congrArg some (by kernel_rfl))
  f39 := Tryz.func124.trans (congrArg some (by kernel_rfl))
  f40 := Tryz.func87.trans (congrArg some (by kernel_rfl))
  t0 := Tryz.underlying0
  a0 := Tryz.isAgg0
  z0 := Tryz.sizeOf0
  v0 := Tryz.zeroValue0
  i0 := by kernel_rfl
  t2 := Tryz.underlying2
  a2 := Tryz.isAgg2
  z2 := Tryz.sizeOf2
  v2 := Tryz.zeroValue2
  i2 := by kernel_rfl
  t3 := Tryz.underlying3
  a3 := Tryz.isAgg3
  z3 := Tryz.sizeOf3
  v3 := Tryz.zeroValue3
  i3 := by kernel_rfl
  t4 := Tryz.underlying4
  a4 := Tryz.isAgg4
  z4 := Tryz.sizeOf4
  v4 := Tryz.zeroValue4
  i4 := by kernel_rfl
  t5 := Tryz.underlying5
  a5 := Tryz.isAgg5
  z5 := Tryz.sizeOf5
  v5 := Tryz.zeroValue5
  i5 := by kernel_rfl
  t9 := Tryz.underlying9
  a9 := Tryz.isAgg9
  z9 := Tryz.sizeOf9
  v9 := Tryz.zeroValue9
  i9 := by kernel_rfl
  t20 := Tryz.underlying20
  a20 := Tryz.isAgg20
  z20 := Tryz.sizeOf20
  v20 := Tryz.zeroValue20
  i20 := by kernel_rfl
  t21 := Tryz.underlying21
  a21 := Tryz.isAgg21
  z21 := Tryz.sizeOf21
  v21 := Tryz.zeroValue21
  i21 := by kernel_rfl
  t22 := Tryz.underlying53
  a22 := Tryz.isAgg53
  z22 := Tryz.sizeOf53
  v22 := Tryz.zeroValue53
  i22 := by kernel_rfl
  t24 := Tryz.underlying31
  a24 := Tryz.isAgg31
  z24 := Tryz.sizeOf31
  v24 := Tryz.zeroValue31
  i24 := by kernel_rfl
  t25 := Tryz.underlying106
  a25 := Tryz.isAgg106
  z25 := Tryz.sizeOf106
  v25 := Tryz.zeroValue106
  i25 := by kernel_rfl
  t34 := Tryz.underlying167
  a34 := Tryz.isAgg167
  z34 := Tryz.sizeOf167
  v34 := Tryz.zeroValue167
  i34 := by kernel_rfl
  c34 := by kernel_rfl
  t36 := Tryz.underlying101
  a36 := Tryz.isAgg101
  z36 := Tryz.sizeOf101
  v36 := Tryz.zeroValue101
  i36 := by kernel_rfl
  t37 := Tryz.underlying60
  a37 := Tryz.isAgg60
  z37 := Tryz.sizeOf60
  v37 := Tryz.zeroValue60
  i37 := by kernel_rfl
  t39 := Tryz.underlying169
  a39 := Tryz.isAgg169
  z39 := Tryz.sizeOf169
  v39 := Tryz.zeroValue169
  i39 := by kernel_rfl
  t44 := Tryz.underlying176
  a44 := Tryz.isAgg176
  z44 := Tryz.sizeOf176
  v44 := Tryz.zeroValue176
  i44 := by kernel_rfl
  t47 := Tryz.underlying105
  a47 := Tryz.isAgg105
  z47 := Tryz.sizeOf105
  v47 := Tryz.zeroValue105
  i47 := by kernel_rfl
  t48 := Tryz.underlying182
  a48 := Tryz.isAgg182
  z48 := Tryz.sizeOf182
  v48 := Tryz.zeroValue182
  i48 := by kernel_rfl
  t50 := Tryz.underlying184
  a50 := Tryz.isAgg184
  z50 := Tryz.sizeOf184
  v50 := Tryz.zeroValue184
  i50 := by kernel_rfl
  t52 := Tryz.underlying132
  a52 := Tryz.isAgg132
  z52 := Tryz.sizeOf132
  v52 := Tryz.zeroValue132
  i52 := by kernel_rfl
  t55 := Tryz.underlying134
  a55 := Tryz.isAgg134
  z55 := Tryz.sizeOf134
  v55 := Tryz.zeroValue134
  i55 := by kernel_rfl
  t59 := Tryz.underlying163
  a59 := Tryz.isAgg163
  z59 := Tryz.sizeOf163
  v59 := Tryz.zeroValue163
  i59 := by kernel_rfl
  t60 := Tryz.underlying75
  a60 := Tryz.isAgg75
  z60 := Tryz.sizeOf75
  v60 := Tryz.zeroValue75
  i60 := by kernel_rfl
  t61 := Tryz.underlying164
  a61 := Tryz.isAgg164
  z61 := Tryz.sizeOf164
  t65 := Tryz.underlying181
  a65 := Tryz.isAgg181
  z65 := Tryz.sizeOf181
  v65 := Tryz.zeroValue181
  i65 := by kernel_rfl
  t66 := Tryz.underlying160
  a66 := Tryz.isAgg160
  z66 := Tryz.sizeOf160
  v66 := Tryz.zeroValue160
  i66 := by kernel_rfl
  t67 := Tryz.underlying68
  a67 := Tryz.isAgg68
  z67 := Tryz.sizeOf68
  v67 := Tryz.zeroValue68
  i67 := by kernel_rfl
  g0 := by kernel_rfl
  m0 := by kernel_rfl
  g1 := by kernel_rfl
  m1 := by kernel_rfl
  g2 := by kernel_rfl
  m2 := by kernel_rfl
  g3 := by kernel_rfl
  m3 := by kernel_rfl
  g4 := by kernel_rfl
  m4 := by kernel_rfl }
theorem parseUint_any (l : List UInt8) (w : World) (h : ∀ c ∈ l, isDig c) (h1 : 1 ≤ l.length) (h19 : l.length ≤ 19) :
    Calls Tryz.prog 68 #[.string ⟨l.toArray⟩, .int .i64 10, .int .i64 64] w fun e w' => e = .returned (.tuple #[.int .u64 ((decVal 0 l : Nat) : Int), .nilIface]) ∧ Below w.heap.size w w' := by
  refine (Any.strconv_ParseUint_10_at64_ok lays14 ⟨l.toArray⟩ (by simp [ByteArray.size]; omega) (decVal 0 l) ?_ w).mono ?_
  · show Lib.parseUintB 64 l = _
    have hne : l ≠ [] := fun e => by rw [e] at h1; simp at h1
    rw [Lib.parseUintB, if_neg hne, show (2 : Nat) ^ 64 - 1 = 18446744073709551615 by decide]
    exact parse_row l 0 0 h (by simp) (by omega)
  · rintro e w' ⟨h1, h2⟩
    refine ⟨h1, ?_⟩
    rcases h2 with rfl | rfl
    · exact Below.refl _ _
    · exact Joins.below_bytesWorld _ _ _ _ (Nat.le_refl _)
end Go.Proofs.YtndcaajebomkhaaGreatDoor
