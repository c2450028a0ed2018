/- Numbers of 64 bits as the program has them. -/
import Derived.Laws.BitsAllLaws
import Derived.Laws.Bits64
import Derived.WalkKit
import Derived.Lib.Hide
namespace Go.Proofs.Ytkghlijmlifmjaa

/-- A word as the program has it. -/
@[irreducible] def I (x : BitVec 64) : Int := (x.toNat : Int)
theorem I_eq (x : BitVec 64) : I x = (x.toNat : Int) := by unfold I; rfl
theorem I_nn (x : BitVec 64) : 0 ≤ I x := by rw [I_eq]; omega
theorem I_lt (x : BitVec 64) : I x < 18446744073709551616 := by rw [I_eq]; have := x.isLt; omega
theorem I_inj {x y : BitVec 64} (h : I x = I y) : x = y := by
  rw [I_eq, I_eq] at h; apply BitVec.eq_of_toNat_eq; omega
theorem I_iff (x y : BitVec 64) : (I x = I y) ↔ x = y := ⟨I_inj, fun h => by rw [h]⟩
theorem I_of {n : Int} (h0 : 0 ≤ n) (h1 : n < 18446744073709551616) : ∃ x, n = I x := by
  refine ⟨BitVec.ofNat 64 n.toNat, ?_⟩
  rw [I_eq, BitVec.toNat_ofNat, Nat.mod_eq_of_lt (by omega)]; omega
theorem xor_I (x y : BitVec 64) : bits .xor .u64 (I x) (I y) = I (x ^^^ y) := by
  rw [I_eq, I_eq, I_eq, bits_xor_u64_nat _ _ (by have := x.isLt; omega) (by have := y.isLt; omega), BitVec.toNat_xor]
theorem or_I (x y : BitVec 64) : bits .or .u64 (I x) (I y) = I (x ||| y) := by
  rw [I_eq, I_eq, I_eq, u64_or_nat _ _ (by have := x.isLt; omega) (by have := y.isLt; omega), BitVec.toNat_or]
theorem add_I (x y : BitVec 64) : IntKind.u64.wrap (I x + I y) = I (x + y) := by
  rw [I_eq, I_eq, I_eq, IntKind.wrap_u64, BitVec.toNat_add]; omega
theorem add_I' (x y : BitVec 64) : (I x + I y) % 18446744073709551616 = I (x + y) := by
  rw [I_eq, I_eq, I_eq, BitVec.toNat_add]; omega
theorem shl_I (x : BitVec 64) (k : Nat) : IntKind.u64.wrap (I x * ((2 ^ k : Nat) : Int)) = I (x <<< k) := by
  rw [I_eq, I_eq, IntKind.wrap_u64, BitVec.toNat_shiftLeft, Nat.shiftLeft_eq]; omega
theorem shr_I (x : BitVec 64) (k : Nat) : I x / ((2 ^ k : Nat) : Int) = I (x >>> k) := by
  rw [I_eq, I_eq, BitVec.toNat_ushiftRight, Nat.shiftRight_eq_div_pow]; omega
/-- Turned to the left. -/
@[irreducible] def rl (x : BitVec 64) (k : Nat) : BitVec 64 := x <<< k ||| x >>> (64 - k)
theorem rl_of (x : BitVec 64) (k : Nat) (p q : Int) (hp : p = ((2 ^ k : Nat) : Int)) (hq : q = ((2 ^ (64 - k) : Nat) : Int)) : bits BinOp.or IntKind.u64 (IntKind.u64.wrap (I x * p)) (I x / q) = I (rl x k) := by
  subst hp hq
  rw [shl_I, shr_I, or_I]
  unfold rl; rfl

theorem kI (n : Nat) (h : n < 18446744073709551616) : ((n : Nat) : Int) = I (BitVec.ofNat 64 n) := by
  rw [I_eq, BitVec.toNat_ofNat, Nat.mod_eq_of_lt (by omega)]
theorem kI0 : (0 : Int) = I 0#64 := kI 0 (by decide)
theorem kI255 : (255 : Int) = I 255#64 := kI 255 (by decide)
theorem kI1 : (8317987319222330741 : Int) = I 8317987319222330741#64 := kI 8317987319222330741 (by decide)
theorem kI2 : (7237128888997146477 : Int) = I 7237128888997146477#64 := kI 7237128888997146477 (by decide)
theorem kI3 : (7816392313619706465 : Int) = I 7816392313619706465#64 := kI 7816392313619706465 (by decide)
theorem kI4 : (8387220255154660723 : Int) = I 8387220255154660723#64 := kI 8387220255154660723 (by decide)
theorem xor1 (x : BitVec 64) : bits .xor .u64 (I x) 8317987319222330741 = I (x ^^^ 8317987319222330741#64) := by rw [kI1, xor_I]
theorem xor2 (x : BitVec 64) : bits .xor .u64 (I x) 7237128888997146477 = I (x ^^^ 7237128888997146477#64) := by rw [kI2, xor_I]
theorem xor3 (x : BitVec 64) : bits .xor .u64 (I x) 7816392313619706465 = I (x ^^^ 7816392313619706465#64) := by rw [kI3, xor_I]
theorem xor4 (x : BitVec 64) : bits .xor .u64 (I x) 8387220255154660723 = I (x ^^^ 8387220255154660723#64) := by rw [kI4, xor_I]
theorem xor255 (x : BitVec 64) : bits .xor .u64 (I x) 255 = I (x ^^^ 255#64) := by rw [kI255, xor_I]

/-- Four numbers. -/
structure V4 where
  a : BitVec 64
  b : BitVec 64
  c : BitVec 64
  d : BitVec 64
/-- .. as cells. -/
abbrev V4.cells (v : V4) : Array Value := #[.int .u64 (I v.a), .int .u64 (I v.b), .int .u64 (I v.c), .int .u64 (I v.d)]
abbrev V4.val (v : V4) : Value := .agg v.cells
/-- A turn. -/
def turn (v : V4) : V4 :=
  let a := v.a + v.b
  let b := rl v.b 13 ^^^ a
  let a := rl a 32
  let c := v.c + v.d
  let d := rl v.d 16 ^^^ c
  let a := a + d
  let d := rl d 21 ^^^ a
  let c := c + b
  let b := rl b 17 ^^^ c
  let c := rl c 32
  ⟨a, b, c, d⟩
/-- One eight. -/
def take8 (v : V4) (n : BitVec 64) : V4 :=
  let u := turn (turn ⟨v.a, v.b, v.c, v.d ^^^ n⟩)
  ⟨u.a ^^^ n, u.b, u.c, u.d⟩
/-- The four numbers of a seed. -/
def start (p q : BitVec 64) : V4 := ⟨p ^^^ 8317987319222330741#64, q ^^^ 7237128888997146477#64, p ^^^ 7816392313619706465#64, q ^^^ 8387220255154660723#64⟩
/-- The end. -/
def finish (v : V4) (n : BitVec 64) : BitVec 64 :=
  let u := take8 v n
  let z := turn (turn (turn (turn ⟨u.a, u.b, u.c ^^^ 255#64, u.d⟩)))
  z.a ^^^ z.b ^^^ z.c ^^^ z.d
end Go.Proofs.Ytkghlijmlifmjaa
