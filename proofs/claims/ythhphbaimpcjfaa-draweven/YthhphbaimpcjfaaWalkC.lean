/- The walks of Add32, Sub32, Div32, Bits, fitting. -/
import Derived.Test.YthhphbaimpcjfaaWalkB
import Derived.Test.YthhphbaimpcjfaaNumC
namespace Go.Proofs.Ythhphbaimpcjfaa
open Go.RowKit
theorem pair_eq {k : IntKind} {a b c d : Int} (h1 : a = c) (h2 : b = d) : Ending.returned (.tuple #[.int k a, .int k b]) = .returned (.tuple #[.int k c, .int k d]) := by rw [h1, h2]
theorem int_eq {k : IntKind} {a b : Int} (h : a = b) : Ending.returned (.int k a) = .returned (.int k b) := by rw [h]
set_option maxRecDepth 100000 in
theorem sub32 (x y c : Nat) (hx : x < 4294967296) (hy : y < 4294967296) (hc : c ≤ 1) (w : World) : Calls Try.prog 45 #[lv x, lv y, lv c] w fun e w' =>
    e = .returned (.tuple #[lv ((x + 8589934592 - y - c) % 4294967296), lv (bor x (y + c))]) ∧ w = w' := by
  obtain ⟨d, hd⟩ : ∃ d, d = (x + 4294967296 + 4294967296 - y - c) % 4294967296 := ⟨_, rfl⟩
  have hd' : d < 4294967296 := by rw [hd]; exact Nat.mod_lt _ (by decide)
  have E0 : Hid (((x : Int) - y - c) % 4294967296 = (d : Int)) := by unfold Hid; omega
  have H := Lib.hid (borrow_top x y c d hx hy hc hd)
  have HD := Lib.hid hd
  have E1 : Hid (bits BinOp.or IntKind.u32 (bits BinOp.and IntKind.u32 (bits BinOp.xor IntKind.u32 IntKind.u32.max (x : Int)) (y : Int)) (bits BinOp.and IntKind.u32 (bits BinOp.xor IntKind.u32 IntKind.u32.max (bits BinOp.xor IntKind.u32 (x : Int) (y : Int))) ((d : Nat) : Int)) / 2147483648 = (bor x (y + c) : Int)) := by
    unfold Hid
    have l0 : 4294967295 ^^^ x < 2 ^ 32 := Nat.xor_lt_two_pow (by decide) (by omega)
    have l1 : (4294967295 ^^^ x) &&& y < 2 ^ 32 := Nat.and_lt_two_pow _ (by omega)
    have l3 : x ^^^ y < 2 ^ 32 := Nat.xor_lt_two_pow (by omega) (by omega)
    have l4 : 4294967295 ^^^ (x ^^^ y) < 2 ^ 32 := Nat.xor_lt_two_pow (by decide) l3
    have l2 : (4294967295 ^^^ (x ^^^ y)) &&& d < 2 ^ 32 := Nat.and_lt_two_pow _ (by omega)
    rw [u32_max, u32_xor_nat 4294967295 x (by decide) hx, u32_xor_nat x y hx hy, u32_xor_nat 4294967295 (x ^^^ y) (by decide) l3, u32_and_nat _ y l0 hy, u32_and_nat _ d l4 hd', u32_or_nat _ _ l1 l2, ← H.out]
    omega
  clear hd H
  go_enter Try.func45, Try.ntmps45
  go_wp2
  go_ret2
  refine ⟨pair_eq ?_ ?_, rfl⟩
  · rw [E0.out]; have := HD.out; omega
  · rw [E0.out, E1.out]
set_option maxRecDepth 100000 in
theorem bits_any {A : Option Addr} {n c a : Nat} {w : World} (ha : Lim w A n c (limbs a)) (la : ln a ≤ 64) : Calls Try.prog 37 #[.slice A n c] w fun e w' => e = .returned (.int .i64 (bl a)) ∧ w = w' := by
  have RA := Lib.hid (right_yes ha la)
  have hl := ha.len
  rw [limbs_length] at hl
  by_cases hz : n = 0
  · subst hz
    have e := ln_eq_zero hl
    subst e
    have E := Lib.hid bl_zero
    clear ha hl la
    go_enter Try.func37, Try.ntmps37
    go_wp2_with fail
    refine RA.out.mono ?_
    rintro e w' ⟨rfl, rfl⟩
    go_wp2_with fail
    go_ret
    exact ⟨by rw [E.out]; rfl, rfl⟩
  · obtain ⟨k, rfl⟩ : ∃ k, n = k + 1 := ⟨n - 1, by omega⟩
    obtain ⟨ad, rfl⟩ := ha.some_ (by omega)
    have hk : k < (limbs a).length := by rw [limbs_length]; omega
    have hc := ha.cell k hk
    have E := Lib.hid (bl_limbs (a := a) (k := k) (by rw [limbs_length]; omega))
    have hx := ha.lo.at_ k hk
    have hb := bl_le (n := (limbs a)[k]) (k := 32) (by omega)
    have KL := Lib.hid (Try.bits_Len32 ((limbs a)[k] : Int))
    have EB : Hid ((Lib.bitLen ((limbs a)[k] : Int).toNat : Int) = (bl ((limbs a)[k]) : Int)) := by unfold Hid; rw [Int.toNat_natCast, bitLen_bl _ (by omega)]
    generalize (limbs a)[k] = x at *
    have h1 : (((k + 1 : Nat) : Int) == 0) = false := by simp; omega
    have k64 : k < 64 := by omega
    clear ha hl la hk
    go_enter Try.func37, Try.ntmps37
    go_wp2_with fail
    refine RA.out.mono ?_
    rintro e w' ⟨rfl, rfl⟩
    go_wp2_with fail
    refine (KL.out _ (by omega) (by omega)).mono ?_
    rintro e w' ⟨rfl, rfl⟩
    rw [EB.out]
    go_wp2_with fail
    go_ret
    exact ⟨int_eq (by rw [E.out]; omega), rfl⟩

set_option maxRecDepth 100000 in
theorem bits_none {A : Option Addr} {n c : Nat} {xs : List Nat} {w : World} (ha : Lim w A n c xs) (h : ¬ Nt xs) : Calls Try.prog 37 #[.slice A n c] w fun e w' => e = .returned (.int .i64 0) ∧ w = w' := by
  have RA := Lib.hid (right_no ha h)
  clear ha h
  go_enter Try.func37, Try.ntmps37
  go_wp2_with fail
  refine RA.out.mono ?_
  rintro e w' ⟨rfl, rfl⟩
  go_wp2_with fail
  go_ret
  exact ⟨rfl, rfl⟩

/-- The number, if it has at most 64 limbs; else 0. -/
@[irreducible] def fitN (r : Nat) : Nat := if ln r ≤ 64 then r else 0
/-- OK or ErrBig. -/
@[irreducible] def fitE (r : Nat) : Int := if ln r ≤ 64 then 0 else 6
theorem fitN_yes {r : Nat} (h : ln r ≤ 64) : fitN r = r := by unfold fitN; rw [if_pos h]
theorem fitN_no {r : Nat} (h : ¬ ln r ≤ 64) : fitN r = 0 := by unfold fitN; rw [if_neg h]
theorem fitE_yes {r : Nat} (h : ln r ≤ 64) : fitE r = 0 := by unfold fitE; rw [if_pos h]
theorem fitE_no {r : Nat} (h : ¬ ln r ≤ 64) : fitE r = 6 := by unfold fitE; rw [if_neg h]
theorem lim_zero (w : World) (A : Option Addr) (c : Nat) (hc : c ≤ 9223372036854775807) : Lim w A 0 c (limbs 0) := by rw [limbs_zero]; exact Lim.none_ w A c hc
end Go.Proofs.Ythhphbaimpcjfaa
