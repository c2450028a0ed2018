/- The walks of Compare, Cmp, Bits, fitting. Bits of words of 32 and 64 bits; how many bits a number has. The walks of Add32, Sub32, Div32, Bits, fitting. Blocks of limbs that a call has made, and writes into. The walk of addInto. The walks of sum, Add. The walks of difference, Sub. The walks of product, Mul. -/
import Derived.Test.YthollkngfibgaaaDoorJ01
import Derived.Test.YthollkngfibgaaaDoorShelf
import Derived.Laws.BitsAllLaws
import Derived.Laws.BitsLemmas
import Derived.Lib.BitFns
import Derived.Test.YthollkngfibgaaaDoorJ00
import Derived.Laws.OwnMore
import Derived.OwnWalk
namespace Go.Proofs.YthollkngfibgaaaDoor
open Go.RowKit

theorem drew3 (w : World) (a b c : Nat) : ∃ k, ((w.drewN a).drewN b).drewN c = w.drewN k := ⟨_, by rw [World.drewN_drewN, World.drewN_drewN]⟩
theorem isNaN_int (x : Int) (w : World) : Calls Tryd.prog 81 #[.int .i64 x] w fun e w' => e = .returned (.bool false) ∧ w = w' := by
  have h : (x != x) = false := by simp
  go_enter Tryd.func81, Tryd.ntmps81
  go_wp2
  go_ret
  exact ⟨rfl, rfl⟩
theorem isNaN_u32 (x : Int) (w : World) : Calls Tryd.prog 82 #[.int .u32 x] w fun e w' => e = .returned (.bool false) ∧ w = w' := by
  have h : (x != x) = false := by simp
  go_enter Tryd.func82, Tryd.ntmps82
  go_wp2
  go_ret
  exact ⟨rfl, rfl⟩
set_option maxRecDepth 100000 in
theorem compare_int (x y : Nat) (w : World) : Calls Tryd.prog 63 #[.int .i64 x, .int .i64 y] w fun e w' => e = .returned (.int .i64 (sgn x y)) ∧ w = w' := by
  have H : x < y ∧ Hid (sgn x y = -1) ∧ (x : Int) < y ∨ ¬ x < y ∧ y < x ∧ Hid (sgn x y = 1) ∧ (y : Int) < x ∧ ¬ (x : Int) < y ∨ x = y := by
    rcases Nat.lt_trichotomy x y with h | h | h
    · exact Or.inl ⟨h, sgn_lt h, by omega⟩
    · exact Or.inr (Or.inr h)
    · exact Or.inr (Or.inl ⟨by omega, h, sgn_gt h, by omega, by omega⟩)
  rcases H with ⟨h, e, h1⟩ | ⟨h, h', e, h1, h2⟩ | rfl
  · go_enter Tryd.func63, Tryd.ntmps63
    go_wp2_with (go_at_call 81; refine (isNaN_int _ _).mono ?_; rintro e w' ⟨rfl, rfl⟩)
    go_ret
    exact ⟨by rw [e.out]; rfl, rfl⟩
  · go_enter Tryd.func63, Tryd.ntmps63
    go_wp2_with (go_at_call 81; refine (isNaN_int _ _).mono ?_; rintro e w' ⟨rfl, rfl⟩)
    go_ret
    exact ⟨by rw [e.out]; rfl, rfl⟩
  · have e := Lib.hid (sgn_eq x)
    have h1 : ¬ (x : Int) < x := by omega
    go_enter Tryd.func63, Tryd.ntmps63
    go_wp2_with (go_at_call 81; refine (isNaN_int _ _).mono ?_; rintro e w' ⟨rfl, rfl⟩)
    go_ret
    exact ⟨by rw [e.out]; rfl, rfl⟩
set_option maxRecDepth 100000 in
theorem compare_u32 (x y : Nat) (w : World) : Calls Tryd.prog 64 #[.int .u32 x, .int .u32 y] w fun e w' => e = .returned (.int .i64 (sgn x y)) ∧ w = w' := by
  have H : x < y ∧ Hid (sgn x y = -1) ∧ (x : Int) < y ∨ ¬ x < y ∧ y < x ∧ Hid (sgn x y = 1) ∧ (y : Int) < x ∧ ¬ (x : Int) < y ∨ x = y := by
    rcases Nat.lt_trichotomy x y with h | h | h
    · exact Or.inl ⟨h, sgn_lt h, by omega⟩
    · exact Or.inr (Or.inr h)
    · exact Or.inr (Or.inl ⟨by omega, h, sgn_gt h, by omega, by omega⟩)
  rcases H with ⟨h, e, h1⟩ | ⟨h, h', e, h1, h2⟩ | rfl
  · go_enter Tryd.func64, Tryd.ntmps64
    go_wp2_with (go_at_call 82; refine (isNaN_u32 _ _).mono ?_; rintro e w' ⟨rfl, rfl⟩)
    go_ret
    exact ⟨by rw [e.out]; rfl, rfl⟩
  · go_enter Tryd.func64, Tryd.ntmps64
    go_wp2_with (go_at_call 82; refine (isNaN_u32 _ _).mono ?_; rintro e w' ⟨rfl, rfl⟩)
    go_ret
    exact ⟨by rw [e.out]; rfl, rfl⟩
  · have e := Lib.hid (sgn_eq x)
    have h1 : ¬ (x : Int) < x := by omega
    go_enter Tryd.func64, Tryd.ntmps64
    go_wp2_with (go_at_call 82; refine (isNaN_u32 _ _).mono ?_; rintro e w' ⟨rfl, rfl⟩)
    go_ret
    exact ⟨by rw [e.out]; rfl, rfl⟩

set_option maxHeartbeats 1000000 in
set_option maxRecDepth 100000 in
theorem cmp_any {A A' : Option Addr} {n c n' c' a b : Nat} {w : World} (ha : Lim w A n c (limbs a)) (hb : Lim w A' n' c' (limbs b)) (la : ln a ≤ 64) (lb : ln b ≤ 64) :
    Calls Tryd.prog 43 #[.slice A n c, .slice A' n' c'] w fun e w' => e = .returned (.int .i64 (sgn a b)) ∧ ∃ m, w' = w.drewN m := by
  have HA := Lib.hid ha; have HB := Lib.hid hb
  have hl := ha.len; have hl' := hb.len
  rw [limbs_length] at hl hl'
  have RA := Lib.hid (right_yes ha la); have RB := Lib.hid (right_yes hb lb)
  by_cases hn : n = n'
  · subst hn
    have EL : Hid (ln a = n) := hl; have EL' : Hid (ln b = n) := hl'
    have n64 : n ≤ 64 := by omega
    have h0 : ((n : Int) != n) = false := by simp
    clear ha hb hl hl' la lb
    go_enter Tryd.func43, Tryd.ntmps43
    go_wp2_with fail
    refine (RA.out).mono ?_
    rintro e w' ⟨rfl, rfl⟩
    go_wp2_with fail
    refine (RB.out).mono ?_
    rintro e w' ⟨rfl, rfl⟩
    go_wp2_with fail
    go_loopg [5] n (fun g s5 wr => ∃ m, g ≤ n ∧ s5 = .int .i64 ((g : Int) - 1) ∧ Hid ((limbs a).drop g = (limbs b).drop g) ∧ wr = w.drewN m)
    case atStart => exact ⟨0, Nat.le_refl _, rfl, by unfold Hid; rw [List.drop_of_length_le (by rw [limbs_length, EL.out]; exact Nat.le_refl _), List.drop_of_length_le (by rw [limbs_length, EL'.out]; exact Nat.le_refl _)], rfl⟩
    case round =>
      obtain ⟨m, hg, rfl, hv, rfl⟩ := hrel
      by_cases hz : gk = 0
      · subst hz
        have ES : Hid (sgn a b = 0) := by
          have : limbs a = limbs b := by simpa using hv.out
          unfold Hid
          rw [limbs_inj this, sgn_eq]
        have ek : ((0 : Nat) : Int) - 1 = -1 := by omega
        rw [ek]
        clear ek
        go_wp2_with fail
        go_ret
        exact ⟨by rw [ES.out]; rfl, _, rfl⟩
      · obtain ⟨k, rfl⟩ : ∃ k, gk = k + 1 := ⟨gk - 1, by omega⟩
        have ek : ((k + 1 : Nat) : Int) - 1 = (k : Int) := by omega
        rw [ek]
        obtain ⟨ad, rfl⟩ := HA.out.some_ (by omega)
        obtain ⟨ad', rfl⟩ := HB.out.some_ (by omega)
        have ka : k < (limbs a).length := by rw [limbs_length, EL.out]; omega
        have kb : k < (limbs b).length := by rw [limbs_length, EL'.out]; omega
        have c1 := HA.out.cell k ka
        have c2 := HB.out.cell k kb
        by_cases hx : (limbs a)[k] = (limbs b)[k]
        · have HV : Hid ((limbs a).drop k = (limbs b).drop k) := drop_step ka kb hx hv.out
          rw [← hx] at c2
          generalize (limbs a)[k] = x at *
          have h2 : ((x : Int) != x) = false := by simp
          clear hx ek
          go_wp2_with fail
          go_quiet (fail)
          go_wp2_with fail
          go_roundg k
          case measure => omega
          case rel => exact ⟨_, by omega, rfl, HV, rfl⟩
        · have ES := Lib.hid (sgn_top ka kb hv.out hx)
          generalize (limbs a)[k] = x at *
          generalize (limbs b)[k] = y at *
          have h2 : ((x : Int) != y) = true := by simp; omega
          clear hx ek
          go_wp2_with fail
          go_quiet (fail)
          go_wp2_with fail
          go_quiet ((go_at_call 64; exact (compare_u32 _ _ _).mono (fun _ _ ⟨he, hw⟩ => ⟨he, _, hw.symm⟩)))
          go_wp2_with fail
          go_ret
          exact ⟨by rw [ES.out]; rfl, drew3 _ _ _ _⟩
  · have ES := Lib.hid (sgn_ln (a := a) (b := b) (by omega))
    rw [hl, hl'] at ES
    have h0 : ((n : Int) != n') = true := by simp; omega
    clear ha hb hl hl' la lb
    go_enter Tryd.func43, Tryd.ntmps43
    go_wp2_with fail
    refine (RA.out).mono ?_
    rintro e w' ⟨rfl, rfl⟩
    go_wp2_with fail
    refine (RB.out).mono ?_
    rintro e w' ⟨rfl, rfl⟩
    go_wp2_with fail
    refine (compare_int _ _ _).mono ?_
    rintro e w' ⟨rfl, rfl⟩
    go_wp2_with fail
    go_ret
    exact ⟨by rw [ES.out]; rfl, 0, rfl⟩

set_option maxRecDepth 100000 in
theorem cmp_none {A A' : Option Addr} {n c n' c' : Nat} {xs ys : List Nat} {w : World} (ha : Lim w A n c xs) (hb : Lim w A' n' c' ys) (h : ¬ (Nt xs ∧ Nt ys)) :
    Calls Tryd.prog 43 #[.slice A n c, .slice A' n' c'] w fun e w' => e = .returned (.int .i64 0) ∧ w = w' := by
  by_cases ka : Nt xs
  · have RA := Lib.hid (right_yes (ka.eq ha.lo ▸ ha) (by unfold ln; rw [← ka.eq ha.lo]; exact ka.1))
    have RB := Lib.hid (right_no hb (fun x => h ⟨ka, x⟩))
    clear ha hb h ka
    go_enter Tryd.func43, Tryd.ntmps43
    go_wp2_with fail
    refine (RA.out).mono ?_
    rintro e w' ⟨rfl, rfl⟩
    go_wp2_with fail
    refine (RB.out).mono ?_
    rintro e w' ⟨rfl, rfl⟩
    go_wp2_with fail
    go_ret
    exact ⟨rfl, rfl⟩
  · have RA := Lib.hid (right_no ha ka)
    clear ha hb h ka
    go_enter Tryd.func43, Tryd.ntmps43
    go_wp2_with fail
    refine (RA.out).mono ?_
    rintro e w' ⟨rfl, rfl⟩
    go_wp2_with fail
    go_ret
    exact ⟨rfl, rfl⟩
end Go.Proofs.YthollkngfibgaaaDoor
namespace Go.Proofs.YthollkngfibgaaaDoor
open Go

theorem ofInt_u32 (a : Nat) (ha : a < 4294967296) : (BitVec.ofInt 32 (a : Int)).toNat = a := by
  rw [BitVec.ofInt_natCast, BitVec.toNat_ofNat]; exact Nat.mod_eq_of_lt (by omega)
theorem ofInt_u64 (a : Nat) (ha : a < 18446744073709551616) : (BitVec.ofInt 64 (a : Int)).toNat = a := by
  rw [BitVec.ofInt_natCast, BitVec.toNat_ofNat]; exact Nat.mod_eq_of_lt (by omega)
theorem u32_and_nat (a b : Nat) (ha : a < 4294967296) (hb : b < 4294967296) : bits .and .u32 (a : Int) (b : Int) = ((a &&& b : Nat) : Int) := by
  have hx : a &&& b < 2 ^ 32 := Nat.and_lt_two_pow _ (by omega)
  show IntKind.u32.wrap ((BitVec.ofInt 32 (a : Int) &&& BitVec.ofInt 32 (b : Int)).toNat : Int) = _
  rw [BitVec.toNat_and, ofInt_u32 a ha, ofInt_u32 b hb, IntKind.wrap_u32]
  omega
theorem u32_or_nat (a b : Nat) (ha : a < 4294967296) (hb : b < 4294967296) : bits .or .u32 (a : Int) (b : Int) = ((a ||| b : Nat) : Int) := by
  have hx : a ||| b < 2 ^ 32 := Nat.or_lt_two_pow (by omega) (by omega)
  show IntKind.u32.wrap ((BitVec.ofInt 32 (a : Int) ||| BitVec.ofInt 32 (b : Int)).toNat : Int) = _
  rw [BitVec.toNat_or, ofInt_u32 a ha, ofInt_u32 b hb, IntKind.wrap_u32]
  omega
theorem u32_xor_nat (a b : Nat) (ha : a < 4294967296) (hb : b < 4294967296) : bits .xor .u32 (a : Int) (b : Int) = ((a ^^^ b : Nat) : Int) := by
  have hx : a ^^^ b < 2 ^ 32 := Nat.xor_lt_two_pow (by omega) (by omega)
  show IntKind.u32.wrap ((BitVec.ofInt 32 (a : Int) ^^^ BitVec.ofInt 32 (b : Int)).toNat : Int) = _
  rw [BitVec.toNat_xor, ofInt_u32 a ha, ofInt_u32 b hb, IntKind.wrap_u32]
  omega
theorem u64_or_nat (a b : Nat) (ha : a < 18446744073709551616) (hb : b < 18446744073709551616) : bits .or .u64 (a : Int) (b : Int) = ((a ||| b : Nat) : Int) := by
  have hx : a ||| b < 2 ^ 64 := Nat.or_lt_two_pow (by omega) (by omega)
  show IntKind.u64.wrap ((BitVec.ofInt 64 (a : Int) ||| BitVec.ofInt 64 (b : Int)).toNat : Int) = _
  rw [BitVec.toNat_or, ofInt_u64 a ha, ofInt_u64 b hb, IntKind.wrap_u64]
  omega
theorem u32_max : IntKind.u32.max = ((4294967295 : Nat) : Int) := by decide
/-- What lies apart is added. -/
theorem or_apart (x y k : Nat) (hy : y < 2 ^ k) : x * 2 ^ k ||| y = x * 2 ^ k + y := by
  rw [Nat.mul_comm, ← Nat.two_pow_add_eq_or_of_lt hy]
theorem u64_or_up (x y : Nat) (hx : x < 4294967296) (hy : y < 4294967296) : bits .or .u64 ((x : Int) * 4294967296) (y : Int) = (x : Int) * 4294967296 + (y : Int) := by
  have e : (x : Int) * 4294967296 = ((x * 4294967296 : Nat) : Int) := by omega
  rw [e, u64_or_nat _ _ (by omega) (by omega)]
  have := or_apart x y 32 (by omega)
  rw [show (2 : Nat) ^ 32 = 4294967296 by decide] at this
  omega

theorem tb31 (x : Nat) (h : x < 4294967296) : x.testBit 31 = decide (2147483648 ≤ x) := by
  rw [Nat.testBit_eq_decide_div_mod_eq]
  have : x / 2 ^ 31 % 2 = 1 ↔ 2147483648 ≤ x := by omega
  simp only [this]
theorem top31 (x : Nat) (h : x < 4294967296) : x / 2147483648 = if x.testBit 31 = true then 1 else 0 := by
  rw [tb31 x h]
  by_cases k : 2147483648 ≤ x
  · rw [if_pos (by simpa using k)]; omega
  · rw [if_neg (by simpa using k)]; omega
/-- 1 or 0. -/
@[irreducible] def bor (x y : Nat) : Nat := if x < y then 1 else 0
theorem bor_yes {x y : Nat} (h : x < y) : bor x y = 1 := by unfold bor; rw [if_pos h]
theorem bor_no {x y : Nat} (h : ¬ x < y) : bor x y = 0 := by unfold bor; rw [if_neg h]
theorem bor_le (x y : Nat) : bor x y ≤ 1 := by unfold bor; split <;> omega
theorem borrow_top (x y c d : Nat) (hx : x < 4294967296) (hy : y < 4294967296) (hc : c ≤ 1) (hd : d = (x + 4294967296 + 4294967296 - y - c) % 4294967296) :
    (((4294967295 ^^^ x) &&& y) ||| ((4294967295 ^^^ (x ^^^ y)) &&& d)) / 2147483648 = bor x (y + c) := by
  have hd' : d < 4294967296 := by rw [hd]; exact Nat.mod_lt _ (by decide)
  have l1 : (4294967295 ^^^ x) &&& y < 2 ^ 32 := Nat.and_lt_two_pow _ (by omega)
  have l2 : (4294967295 ^^^ (x ^^^ y)) &&& d < 2 ^ 32 := Nat.and_lt_two_pow _ (by omega)
  rw [top31 _ (Nat.or_lt_two_pow l1 l2), Nat.testBit_or, Nat.testBit_and, Nat.testBit_and, Nat.testBit_xor, Nat.testBit_xor, Nat.testBit_xor, tb31 x hx, tb31 y hy, tb31 d hd', show (4294967295 : Nat).testBit 31 = true by decide]
  unfold bor
  by_cases a : 2147483648 ≤ x <;> by_cases b : 2147483648 ≤ y <;> by_cases e : 2147483648 ≤ d <;> simp [a, b, e] <;> omega

/-- How many bits a number has. -/
def bl (n : Nat) : Nat := if h : n = 0 then 0 else bl (n / 2) + 1
termination_by n
decreasing_by exact Nat.div_lt_self (Nat.pos_of_ne_zero h) (by decide)
theorem bl_zero : bl 0 = 0 := by rw [bl]; rfl
theorem bl_pos {n : Nat} (h : n ≠ 0) : bl n = bl (n / 2) + 1 := by rw [bl, dif_neg h]
theorem lt_bl (n : Nat) : n < 2 ^ bl n := by
  induction n using Nat.strongRecOn with
  | _ n ih =>
    by_cases h : n = 0
    · rw [h, bl_zero]; decide
    · rw [bl_pos h, Nat.pow_succ]
      have := ih (n / 2) (Nat.div_lt_self (Nat.pos_of_ne_zero h) (by decide))
      omega
theorem le_bl {n : Nat} (h : n ≠ 0) : 2 ^ (bl n - 1) ≤ n := by
  induction n using Nat.strongRecOn with
  | _ n ih =>
    rw [bl_pos h, Nat.add_sub_cancel]
    by_cases k : n / 2 = 0
    · rw [k, bl_zero]; simp; omega
    · have := ih (n / 2) (Nat.div_lt_self (Nat.pos_of_ne_zero h) (by decide)) k
      have e := bl_pos k
      rw [e, Nat.add_sub_cancel] at this
      rw [e, Nat.pow_succ]
      omega
theorem pow_lt_pow_iff {a b : Nat} (h : 2 ^ a < 2 ^ b) : a < b := (Nat.pow_lt_pow_iff_right (by decide)).1 h
theorem bl_of {n k : Nat} (h1 : 2 ^ k ≤ n) (h2 : n < 2 ^ (k + 1)) : bl n = k + 1 := by
  have hn : n ≠ 0 := by have := Nat.two_pow_pos k; omega
  have a := lt_bl n
  have b := le_bl hn
  have p1 := pow_lt_pow_iff (Nat.lt_of_le_of_lt h1 a)
  have p2 := pow_lt_pow_iff (Nat.lt_of_le_of_lt b h2)
  have := bl_pos hn
  omega
theorem bl_le {n k : Nat} (h : n < 2 ^ k) : bl n ≤ k := by
  by_cases hn : n = 0
  · rw [hn, bl_zero]; omega
  · have p := pow_lt_pow_iff (Nat.lt_of_le_of_lt (le_bl hn) h)
    omega
theorem bitLen_bl (x : Nat) (h : x < 18446744073709551616) : Lib.bitLen x = bl x := by
  induction x using Nat.strongRecOn with
  | _ x ih =>
    by_cases hx : x = 0
    · subst hx; rw [bl_zero]; decide
    · rw [Lib.bitLen_half x hx (by omega), bl_pos hx, ih (x / 2) (Nat.div_lt_self (Nat.pos_of_ne_zero hx) (by decide)) (by omega), Nat.add_comm]
theorem B_pow (k : Nat) : B ^ k = 2 ^ (32 * k) := by rw [B_eq, show (4294967296 : Nat) = 2 ^ 32 by decide, Nat.pow_mul]
theorem bl_add_mul {t P k x : Nat} (ht : t < 2 ^ k) (hP : P = 2 ^ k) (hx : x ≠ 0) : bl (t + P * x) = k + bl x := by
  have a := lt_bl x
  have b := le_bl hx
  have e := bl_pos hx
  subst hP
  have e2 : k + bl x = (k + (bl x - 1)) + 1 := by omega
  rw [e2]
  refine bl_of ?_ ?_
  · rw [Nat.pow_add]
    have := Nat.mul_le_mul_left (2 ^ k) b
    omega
  · rw [← e2, Nat.pow_add]
    have := Nat.mul_le_mul_left (2 ^ k) (show x + 1 ≤ 2 ^ bl x by omega)
    rw [Nat.mul_add] at this
    omega
theorem bl_limbs {a k : Nat} (hk : k + 1 = (limbs a).length) : bl a = k * 32 + bl ((limbs a)[k]'(by omega)) := by
  have e := val_split (limbs a) k (by omega)
  have d := val_drop (limbs a) k (by omega)
  have z : (limbs a).drop (k + 1) = [] := List.drop_of_length_le (by omega)
  rw [z, val_nil, Nat.mul_zero, Nat.add_zero] at d
  rw [val_limbs, d] at e
  have l := val_take_limbs_lt a k
  conv => lhs; rw [e]
  rw [bl_add_mul (k := 32 * k) (by rw [← B_pow]; exact l) (B_pow k) (last_ne_zero hk), Nat.mul_comm]
end Go.Proofs.YthollkngfibgaaaDoor
namespace Go.Proofs.YthollkngfibgaaaDoor
open Go.RowKit
theorem pair_eq {k : IntKind} {a b c d : Int} (h1 : a = c) (h2 : b = d) : Ending.returned (.tuple #[.int k a, .int k b]) = .returned (.tuple #[.int k c, .int k d]) := by rw [h1, h2]
theorem int_eq {k : IntKind} {a b : Int} (h : a = b) : Ending.returned (.int k a) = .returned (.int k b) := by rw [h]
set_option maxRecDepth 100000 in
theorem add32 (x y c : Nat) (hx : x < 4294967296) (hy : y < 4294967296) (hc : c ≤ 1) (w : World) : Calls Tryd.prog 105 #[lv x, lv y, lv c] w fun e w' =>
    e = .returned (.tuple #[lv ((x + y + c) % 4294967296), lv ((x + y + c) / 4294967296)]) ∧ w = w' := by
  go_enter Tryd.func105, Tryd.ntmps105
  go_wp2
  go_ret2
  exact ⟨pair_eq (by omega) (by omega), rfl⟩
set_option maxRecDepth 100000 in
theorem sub32 (x y c : Nat) (hx : x < 4294967296) (hy : y < 4294967296) (hc : c ≤ 1) (w : World) : Calls Tryd.prog 107 #[lv x, lv y, lv c] w fun e w' =>
    e = .returned (.tuple #[lv ((x + 8589934592 - y - c) % 4294967296), lv (bor x (y + c))]) ∧ w = w' := by
  obtain ⟨d, hd⟩ : ∃ d, d = (x + 4294967296 + 4294967296 - y - c) % 4294967296 := ⟨_, rfl⟩
  have hd' : d < 4294967296 := by rw [hd]; exact Nat.mod_lt _ (by decide)
  have E0 : Hid (((x : Int) - y - c) % 4294967296 = (d : Int)) := by unfold Hid; omega
  have H := Lib.hid (borrow_top x y c d hx hy hc hd)
  have HD := Lib.hid hd
  have E1 : Hid (bits BinOp.or IntKind.u32 (bits BinOp.and IntKind.u32 (bits BinOp.xor IntKind.u32 IntKind.u32.max (x : Int)) (y : Int)) (bits BinOp.and IntKind.u32 (bits BinOp.xor IntKind.u32 IntKind.u32.max (bits BinOp.xor IntKind.u32 (x : Int) (y : Int))) ((d : Nat) : Int)) / 2147483648 = (bor x (y + c) : Int)) := by
    unfold Hid
    have l0 : 4294967295 ^^^ x < 2 ^ 32 := Nat.xor_lt_two_pow (by decide) (by omega)
    have l1 : (4294967295 ^^^ x) &&& y < 2 ^ 32 := Nat.and_lt_two_pow _ (by omega)
    have l3 : x ^^^ y < 2 ^ 32 := Nat.xor_lt_two_pow (by omega) (by omega)
    have l4 : 4294967295 ^^^ (x ^^^ y) < 2 ^ 32 := Nat.xor_lt_two_pow (by decide) l3
    have l2 : (4294967295 ^^^ (x ^^^ y)) &&& d < 2 ^ 32 := Nat.and_lt_two_pow _ (by omega)
    rw [u32_max, u32_xor_nat 4294967295 x (by decide) hx, u32_xor_nat x y hx hy, u32_xor_nat 4294967295 (x ^^^ y) (by decide) l3, u32_and_nat _ y l0 hy, u32_and_nat _ d l4 hd', u32_or_nat _ _ l1 l2, ← H.out]
    omega
  clear hd H
  go_enter Tryd.func107, Tryd.ntmps107
  go_wp2
  go_ret2
  refine ⟨pair_eq ?_ ?_, rfl⟩
  · rw [E0.out]; have := HD.out; omega
  · rw [E0.out, E1.out]
set_option maxRecDepth 100000 in
theorem div32 (x y c : Nat) (hx : x < c) (hy : y < 4294967296) (hc : c < 4294967296) (w : World) : Calls Tryd.prog 83 #[lv x, lv y, lv c] w fun e w' =>
    e = .returned (.tuple #[lv ((x * 4294967296 + y) / c), lv ((x * 4294967296 + y) % c)]) ∧ ∃ m, w' = w.drewN m := by
  have h1 : ((c : Int) != 0) = true := by simp; omega
  have h2 : ¬ (c : Int) ≤ x := by omega
  have e1 := Lib.hid (u64_or_up x y (by omega) hy)
  have k1 : (x * 4294967296 + y) / c < 4294967296 := by
    rw [Nat.div_lt_iff_lt_mul (by omega)]
    have : (x + 1) * 4294967296 ≤ c * 4294967296 := Nat.mul_le_mul_right _ hx
    rw [Nat.mul_comm c] at this
    omega
  have k2 : (x * 4294967296 + y) % c < c := Nat.mod_lt _ (by omega)
  have e2 : ((x * 4294967296 + y : Nat) : Int) = (x : Int) * 4294967296 + (y : Int) := by omega
  have E3 : Hid ((IntKind.u64.wrap ((bits BinOp.or IntKind.u64 ((x : Int) * 4294967296) (y : Int)).tdiv (c : Int)) % 4294967296) = (((x * 4294967296 + y) / c : Nat) : Int)) := by
    unfold Hid
    rw [e1.out, ← e2, ← Int.ofNat_tdiv, IntKind.wrap_u64]
    generalize (x * 4294967296 + y) / c = q at *
    omega
  have E4 : Hid ((bits BinOp.or IntKind.u64 ((x : Int) * 4294967296) (y : Int)).tmod (c : Int) % 4294967296 = (((x * 4294967296 + y) % c : Nat) : Int)) := by
    unfold Hid
    rw [e1.out, ← e2, ← Int.ofNat_tmod]
    generalize (x * 4294967296 + y) % c = q at *
    omega
  clear e2 k1 k2
  go_enter Tryd.func83, Tryd.ntmps83
  go_wp2
  go_quiet (fail)
  go_wp2
  go_ret2
  exact ⟨pair_eq E3.out E4.out, _, rfl⟩

/-- The number, if it has at most 64 limbs; else 0. -/
@[irreducible] def fitN (r : Nat) : Nat := if ln r ≤ 64 then r else 0
/-- OK or ErrBig. -/
@[irreducible] def fitE (r : Nat) : Int := if ln r ≤ 64 then 0 else 6
theorem fitN_yes {r : Nat} (h : ln r ≤ 64) : fitN r = r := by unfold fitN; rw [if_pos h]
theorem fitN_no {r : Nat} (h : ¬ ln r ≤ 64) : fitN r = 0 := by unfold fitN; rw [if_neg h]
theorem fitE_yes {r : Nat} (h : ln r ≤ 64) : fitE r = 0 := by unfold fitE; rw [if_pos h]
theorem fitE_no {r : Nat} (h : ¬ ln r ≤ 64) : fitE r = 6 := by unfold fitE; rw [if_neg h]
theorem lim_zero (w : World) (A : Option Addr) (c : Nat) (hc : c ≤ 9223372036854775807) : Lim w A 0 c (limbs 0) := by rw [limbs_zero]; exact Lim.none_ w A c hc
set_option maxRecDepth 100000 in
theorem fitting_any {A : Option Addr} {n c r : Nat} {w : World} (h : Lim w A n c (limbs r)) : Calls Tryd.prog 90 #[.slice A n c] w fun e w' => RetE (fitN r) (fitE r) w e w' := by
  have hl := h.len
  rw [limbs_length] at hl
  by_cases k : ln r ≤ 64
  · rw [fitN_yes k, fitE_yes k]
    have h1 : (n : Int) ≤ 64 := by omega
    have H := Lib.hid h
    clear h hl k
    go_enter Tryd.func90, Tryd.ntmps90
    go_wp2
    go_ret2
    exact ⟨_, _, _, rfl, H.out, Below.refl _ _⟩
  · rw [fitN_no k, fitE_no k]
    have h1 : ¬ (n : Int) ≤ 64 := by omega
    clear h hl k
    go_enter Tryd.func90, Tryd.ntmps90
    go_wp2
    go_ret2
    exact ⟨_, _, _, rfl, lim_zero _ _ _ (by omega), Below.refl _ _⟩
end Go.Proofs.YthollkngfibgaaaDoor
namespace Go.Proofs.YthollkngfibgaaaDoor
open Go.RowKit

theorem add_lit (g o i : Nat) : (⟨g, o, none⟩ : Addr).add i = ⟨g, o + i, none⟩ := by
  unfold Addr.add
  by_cases h : i = 0
  · subst h; rfl
  · rw [if_neg h]
theorem block_add (a : Addr) (n : Nat) : (a.add n).block = a.block := by unfold Addr.add; split <;> rfl

/-- Block g is just the limbs xs. -/
structure Row (w : World) (g : Nat) (xs : List Nat) : Prop where
  blk : w.heap[g]? = some (.cells (xs.map lv).toArray 49 (0, 0))
  lo : Lo xs

section
variable {w w' : World} {g : Nat} {xs : List Nat}
theorem Row.lt (h : Row w g xs) : g < w.heap.size := (Array.getElem?_eq_some_iff.1 h.blk).1
theorem Row.cell (h : Row w g xs) (i : Nat) (hi : i < xs.length) : w.cell? ⟨g, i, none⟩ = some (lv xs[i]) := by
  have := h.blk
  simp [World.cell?, this, hi]
theorem Row.cell' (h : Row w g xs) {i x : Nat} (hi : xs[i]? = some x) : w.cell? ⟨g, i, none⟩ = some (lv x) := by
  obtain ⟨a, b⟩ := List.getElem?_eq_some_iff.1 hi
  rw [h.cell i a, b]
theorem Row.melt (h : Row w g xs) (i : Nat) : w.frozen? ⟨g, i, none⟩ = false := by
  have := h.blk
  simp [World.frozen?, this]
theorem Row.drew (h : Row w g xs) : Row w.drew g xs := ⟨h.blk, h.lo⟩
theorem Row.drewN (h : Row w g xs) (n : Nat) : Row (w.drewN n) g xs := ⟨h.blk, h.lo⟩
theorem Row.alloc (h : Row w g xs) (o : Obj) : Row (w.alloc o) g xs := ⟨(Below.heap_alloc w o g h.lt).trans h.blk, h.lo⟩
theorem Row.next (h : Row w g xs) (hb : Below w.heap.size w w') : Row w' g xs := ⟨(hb.block g h.lt).trans h.blk, h.lo⟩
theorem Row.far (h : Row w g xs) {p : Addr} (hp : g ≠ p.block) (u : Value) : Row (w.setCell p u) g xs := ⟨(Below.heap_setCell w p u g hp).trans h.blk, h.lo⟩
theorem Row.set_ (h : Row w g xs) (i v : Nat) (hv : v < 4294967296) : Row (w.setCell ⟨g, i, none⟩ (lv v)) g (xs.set i v) := by
  refine ⟨?_, fun y hy => ?_⟩
  · have := h.blk
    simp [World.setCell, Array.getElem?_modify, this]
  · rcases List.mem_or_eq_of_mem_set hy with k | k
    · exact h.lo y k
    · rw [k]; exact hv
theorem Row.new (w : World) (xs : List Nat) (h : Lo xs) : Row (w.alloc (.cells (xs.map lv).toArray 49)) w.heap.size xs := ⟨heap_alloc_new w _, h⟩
/-- A piece of a block is a slice. -/
theorem Row.lim (h : Row w g xs) {o n c : Nat} (ho : o + n ≤ xs.length) (hc : n ≤ c) (ht : c ≤ 9223372036854775807) : Lim w (some ⟨g, o, none⟩) n c ((xs.drop o).take n) := by
  refine ⟨by simp; omega, hc, ht, fun j hj => ⟨_, rfl, ?_⟩, (h.lo.drop o).take n⟩
  rw [add_lit]
  have hj' : o + j < xs.length := by simp at hj; omega
  rw [h.cell _ hj']
  simp
end

/-- But for block g all is as it was. -/
structure Turn (w w' : World) (g : Nat) : Prop where
  os : w'.os = w.os
  tape : w'.tape = w.tape
  output : w'.output = w.output
  size : w'.heap.size = w.heap.size
  block : ∀ k, k ≠ g → w'.heap[k]? = w.heap[k]?
section
variable {w w' w'' : World} {g : Nat}
theorem Turn.refl (w : World) (g : Nat) : Turn w w g := ⟨rfl, rfl, rfl, rfl, fun _ _ => rfl⟩
theorem Turn.trans (h : Turn w w' g) (k : Turn w' w'' g) : Turn w w'' g := ⟨k.os.trans h.os, k.tape.trans h.tape, k.output.trans h.output, k.size.trans h.size, fun i hi => (k.block i hi).trans (h.block i hi)⟩
theorem Turn.drew (h : Turn w w' g) : Turn w w'.drew g := ⟨h.os, h.tape, h.output, h.size, h.block⟩
theorem Turn.drewN (h : Turn w w' g) (n : Nat) : Turn w (w'.drewN n) g := ⟨h.os, h.tape, h.output, h.size, h.block⟩
theorem Turn.setCell (h : Turn w w' g) (i : Nat) (u : Value) : Turn w (w'.setCell ⟨g, i, none⟩ u) g :=
  h.trans ⟨rfl, rfl, rfl, by simp [World.setCell], fun k hk => Below.heap_setCell _ _ _ _ hk⟩
theorem Turn.below (h : Turn w w' g) {B : Nat} (hg : B ≤ g) : Below B w w' := ⟨h.os, h.tape, h.output, Nat.le_of_eq h.size.symm, fun k hk => h.block k (by omega)⟩
theorem Turn.lim (h : Turn w w' g) {A : Option Addr} {n c : Nat} {xs : List Nat} (l : Lim w A n c xs) (hne : ∀ ad, A = some ad → ad.block ≠ g) : Lim w' A n c xs :=
  ⟨l.len, l.cap, l.top, fun j hj => by
    obtain ⟨ad, e, hc⟩ := l.at_ j hj
    refine ⟨ad, e, ?_⟩
    rw [World.cell?_of_block (w := w) (h.block _ (by rw [block_add]; exact hne ad e))]
    exact hc, l.lo⟩
theorem Turn.row (h : Turn w w' g) {g' : Nat} {xs : List Nat} (l : Row w g' xs) (hne : g' ≠ g) : Row w' g' xs := ⟨(h.block _ hne).trans l.blk, l.lo⟩
end
/-- What a slice lies in was there. -/
theorem Lim.ne {w : World} {A : Option Addr} {n c : Nat} {xs : List Nat} (l : Lim w A n c xs) (hn : 0 < n) {g : Nat} (hg : w.heap.size ≤ g) : ∀ ad, A = some ad → ad.block ≠ g := by
  intro ad e
  obtain ⟨ad', e', hc⟩ := l.at_ 0 (by have := l.len; omega)
  have := cell_lt hc
  rw [block_add] at this
  rw [e] at e'
  injection e' with e'
  subst e'
  omega

theorem lo_zeros (n : Nat) : Lo (List.replicate n 0) := fun y hy => by rw [(List.mem_replicate.1 hy).2]; decide
/-- A slice that was there lies in no new block. -/
theorem Lim.new_ne {w : World} {A : Option Addr} {n c : Nat} {xs : List Nat} (l : Lim w A n c xs) : ∀ ad, A = some ad → 0 < n → ad.block ≠ w.heap.size := fun ad e hn => l.ne hn (Nat.le_refl _) ad e
/-- Limbs that are not there lie nowhere. -/
theorem turn_lim {w w' : World} {g : Nat} (t : Turn w w' g) {A : Option Addr} {n c : Nat} {xs : List Nat} (l : Lim w A n c xs) (hne : ∀ ad, A = some ad → 0 < n → ad.block ≠ g) : Lim w' A n c xs := by
  by_cases hn : 0 < n
  · exact t.lim l (fun ad e => hne ad e hn)
  · have h0 := l.len
    exact ⟨l.len, l.cap, l.top, fun j hj => by omega, l.lo⟩

/-- The elements' type. -/
theorem info_u32 : (Tryd.prog.info? 49).map (fun i => (i.zero, i.size, i.bytes)) = some (some (.int .u32 0), 1, 4) := by kernel_rfl
/-- A block of noughts. -/
@[irreducible] def zrow (n : Nat) : Obj := .cells ((List.replicate n 0).map lv).toArray 49
theorem Row.zeros (w : World) (n : Nat) : Row (w.alloc (zrow n)) w.heap.size (List.replicate n 0) := by unfold zrow; exact Row.new w _ (lo_zeros n)
/-- A new block of noughts. -/
theorem make_u32 (n : Nat) (hn : n ≤ 1000000000000) (w : World) : (Instr.makeSlice 28 (.int .i64 (n : Int)) (.int .i64 (n : Int))).run Tryd.prog w =
    .ok (.slice (some ⟨w.heap.size, 0, none⟩) n n) (w.alloc (zrow n)) := by
  unfold zrow
  obtain ⟨i, hi, hz, hs, hb⟩ := info_parts info_u32
  have hbytes : (i.bytes : Int) * (n : Int) ≤ 281474976710656 := by rw [hb]; omega
  have hr := run_make (P := Tryd.prog) w 28 49 i (.int .u32 0) Tryd.underlying28 hi hz .i64 .i64 n n (by omega) (by omega) hbytes (by omega)
  simp only [Int.toNat_natCast] at hr
  have e : madeCells (Value.int IntKind.u32 0).cells n = ((List.replicate n 0).map lv).toArray := by
    apply Array.ext'
    rw [show (Value.int IntKind.u32 0).cells = #[.int .u32 0] from rfl, toList_madeCells_one]
    simp
  rw [hr, hs, Nat.mul_one, e]

/-- What a loop has written, limb by limb. -/
theorem set_mid (p ss r : List Nat) (v o i : Nat) (ho : p.length = o) (hs : ss.length = i) (x : Nat) : (p ++ ss ++ (x :: r)).set (o + i) v = p ++ (ss ++ [v]) ++ r := by
  subst ho hs
  rw [List.append_assoc, List.set_append_right _ _ (by omega), Nat.add_sub_cancel_left, List.set_append_right _ _ (by omega), Nat.sub_self, List.set_cons_zero]
  simp
theorem set_part (zs ss : List Nat) (v o i : Nat) (hz : o + i < zs.length) (hs : ss.length = i) : (zs.take o ++ ss ++ zs.drop (o + i)).set (o + i) v = zs.take o ++ (ss ++ [v]) ++ zs.drop (o + (i + 1)) := by
  rw [List.drop_eq_getElem_cons hz, set_mid _ _ _ _ o i (by simp; omega) hs]
  rfl
theorem part_len (zs ss : List Nat) (o i : Nat) (hz : o + i ≤ zs.length) (hs : ss.length = i) : (zs.take o ++ ss ++ zs.drop (o + i)).length = zs.length := by simp; omega
theorem part_at (zs ss : List Nat) (o i : Nat) (hz : o + i < zs.length) (hs : ss.length = i) : (zs.take o ++ ss ++ zs.drop (o + i))[o + i]? = some zs[o + i] := by
  rw [List.getElem?_append_right (by simp; omega), List.length_append, hs, List.length_take, Nat.min_eq_left (by omega), Nat.sub_self, List.getElem?_drop, Nat.add_zero, List.getElem?_eq_getElem hz]
end Go.Proofs.YthollkngfibgaaaDoor
namespace Go.Proofs.YthollkngfibgaaaDoor
open Go.RowKit

/-- The limbs of a slice can be read, each, while those ahead of it are written over at o in block g. -/
def Src (w : World) (g o : Nat) (zs : List Nat) (A : Option Addr) (xs : List Nat) : Prop :=
  ∀ (i : Nat) (h : i < xs.length) (ss : List Nat) (W : World), ss.length = i → Turn w W g → Row W g (zs.take o ++ ss ++ zs.drop (o + i)) → ∃ ad, A = some ad ∧ W.cell? (ad.add i) = some (lv xs[i])
theorem Src.far {w : World} {g o : Nat} {zs : List Nat} {A : Option Addr} {n c : Nat} {xs : List Nat} (l : Lim w A n c xs) (hne : ∀ ad, A = some ad → ad.block ≠ g) : Src w g o zs A xs :=
  fun i h _ _ _ t _ => (t.lim l hne).at_ i h
theorem Src.same {w : World} {g o n : Nat} {zs : List Nat} (hz : o + n ≤ zs.length) : Src w g o zs (some ⟨g, o, none⟩) ((zs.drop o).take n) := by
  intro i h ss W hs _ r
  refine ⟨_, rfl, ?_⟩
  rw [add_lit]
  have h' : o + i < zs.length := by simp at h; omega
  rw [r.cell' (part_at zs ss o i h' hs)]
  simp

/-- What is in the loops of addInto. -/
structure Sum (w : World) (g o : Nat) (zs xs ys : List Nat) (i k : Nat) (wr : World) : Prop where
  ss : ∃ ss, ss.length = i ∧ Lo ss ∧ val ss + B ^ i * k = val (xs.take i) + val (ys.take i) ∧ Row wr g (zs.take o ++ ss ++ zs.drop (o + i))
  k1 : k ≤ 1
  t : Turn w wr g

theorem Sum.drew {w : World} {g o : Nat} {zs xs ys : List Nat} {i k : Nat} {wr : World} (h : Sum w g o zs xs ys i k wr) : Sum w g o zs xs ys i k wr.drew := by
  obtain ⟨ss, a, b, c, r⟩ := h.ss
  exact ⟨⟨ss, a, b, c, r.drew⟩, h.k1, h.t.drew⟩
theorem u32_mod (x y k : Nat) : Value.int IntKind.u32 (((x : Int) + (y : Int) + (k : Int)) % 4294967296) = lv ((x + y + k) % 4294967296) := congrArg (Value.int .u32) (by omega)
theorem u32_mod2 (x k : Nat) : Value.int IntKind.u32 (((x : Int) + (k : Int)) % 4294967296) = lv ((x + k) % 4294967296) := congrArg (Value.int .u32) (by omega)
theorem sum_step {P s x y k v c : Nat} (h : v + P * k = s) (e : x + y + k = c) : v + P * (c % 4294967296) + P * 4294967296 * (c / 4294967296) = s + P * x + P * y := by
  have e2 : c = c % 4294967296 + 4294967296 * (c / 4294967296) := by omega
  have : P * c = P * (c % 4294967296) + P * 4294967296 * (c / 4294967296) := by
    conv => lhs; rw [e2, Nat.mul_add, ← Nat.mul_assoc]
  rw [Nat.add_assoc, ← this, ← e, ← h, Nat.mul_add, Nat.mul_add]
  omega
theorem Sum.step {w : World} {g o : Nat} {zs xs ys : List Nat} {i k : Nat} {wr : World} (h : Sum w g o zs xs ys i k wr) (x y : Nat) (hx : x < 4294967296) (hy : y < 4294967296)
    (ex : val (xs.take (i + 1)) = val (xs.take i) + B ^ i * x) (ey : val (ys.take (i + 1)) = val (ys.take i) + B ^ i * y) (hz : o + i < zs.length) :
    Sum w g o zs xs ys (i + 1) ((x + y + k) / 4294967296) (wr.setCell ⟨g, o + i, none⟩ (lv ((x + y + k) % 4294967296))) := by
  obtain ⟨ss, hl, lo, hv, r⟩ := h.ss
  have hk := h.k1
  refine ⟨⟨ss ++ [(x + y + k) % 4294967296], by simp [hl], lo.append (.cons (Nat.mod_lt _ (by decide)) .nil), ?_, ?_⟩, by omega, h.t.setCell _ _⟩
  · rw [val_snoc, hl, ex, ey, Nat.pow_succ]
    have := sum_step (c := x + y + k) hv (x := x) (y := y) rfl
    rw [← B_eq] at this
    rw [B_eq] at *
    omega
  · have := r.set_ (o + i) ((x + y + k) % 4294967296) (Nat.mod_lt _ (by decide))
    rwa [set_part zs ss _ o i hz hl] at this

set_option maxHeartbeats 2000000 in
set_option maxRecDepth 100000 in
theorem addInto_any {A A' : Option Addr} {g o ns cs n c n' c' : Nat} {zs xs ys : List Nat} {w : World} (hr : Row w g zs) (hx : Src w g o zs A xs) (lx : Lo xs) (ex : xs.length = n) (hy : Lim w A' n' c' ys)
    (hz : o + n ≤ zs.length) (hs : n ≤ ns) (hn : n' ≤ n) (hm : n ≤ 1000) (hne : ∀ ad, A' = some ad → 0 < n' → ad.block ≠ g) :
    Calls Tryd.prog 104 #[.slice (some ⟨g, o, none⟩) ns cs, .slice A n c, .slice A' n' c'] w fun e w' => ∃ k, e = .returned (lv k) ∧ Sum w g o zs xs ys n k w' := by
  have S0 : Sum w g o zs xs ys 0 0 w := ⟨⟨[], rfl, .nil, by simp [val_nil], by simpa using hr⟩, by omega, Turn.refl _ _⟩
  have HY := Lib.hid hy; have HX := Lib.hid hx; have EX := Lib.hid ex; have LX := Lib.hid lx; have HNE := Lib.hid hne
  have ey := hy.len
  have EY := Lib.hid ey
  clear hr hx lx ex hy hne ey
  go_enter Tryd.func104, Tryd.ntmps104
  go_wp2_with fail
  go_loopg [7, 12] n' (fun q s7 s12 wr => ∃ i k, i + q = n' ∧ s12 = .int .i64 (i : Int) ∧ s7 = lv k ∧ Sum w g o zs xs ys i k wr)
  case atStart => exact ⟨0, 0, by omega, rfl, rfl, S0⟩
  case round =>
    clear S0
    obtain ⟨i, k, hq, rfl, rfl, S⟩ := hrel
    have HQ := Lib.hid hq
    by_cases lt : i < n'
    · clear hq
      have il : (i : Int) < n' := by omega
      have il2 : (i : Int) < n := by omega
      have il3 : (i : Int) < ns := by omega
      have il0 : (0 : Int) ≤ i := by omega
      have i1 : i < xs.length := by rw [EX.out]; omega
      have i2 : i < ys.length := by rw [EY.out]; omega
      obtain ⟨ss, hl, lo, hv, r⟩ := S.ss
      obtain ⟨ad, rfl, c1⟩ := HX.out i i1 ss wr hl S.t r
      obtain ⟨ad', rfl, c2⟩ := (turn_lim S.t HY.out HNE.out).at_ i i2
      have c3 := r.cell' (part_at zs ss o i (by omega) hl)
      have f3 := r.melt (o + i)
      have bx := LX.out.at_ i i1
      have bY := HY.out.lo.at_ i i2
      have hk := S.k1
      have ST := Lib.hid (S.step xs[i] ys[i] bx bY (val_take_succ xs i i1) (val_take_succ ys i i2) (by omega))
      generalize xs[i] = x at *
      generalize ys[i] = y at *
      generalize zs[o + i]'(by omega) = z at *
      clear ss hl lo hv r S
      go_wp2_with fail
      go_region_with (first | (go_at_call 105; refine (add32 _ _ _ (by assumption) (by assumption) (by assumption) _).mono ?_; rintro e w1 ⟨rfl, rfl⟩))
      all_goals go_wp2_with fail
      all_goals go_roundg (gk - 1)
      case measure => have := HQ.out; omega
      case measure => have := HQ.out; omega
      all_goals go_light
      all_goals refine ⟨i + 1, _, by have := HQ.out; omega, by go_num, rfl, ?_⟩
      all_goals rw [u32_mod]
      all_goals exact ST.out.drew
    · obtain rfl : n' = i := by omega
      clear lt hq HQ
      have il : ¬ (n' : Int) < n' := by omega
      go_wp2_with fail
      go_loopg [7, 9] (n - n') (fun q s7 s9 wr => ∃ i k, i + q = n ∧ n' ≤ i ∧ s9 = .int .i64 (i : Int) ∧ s7 = lv k ∧ Sum w g o zs xs ys i k wr)
      case atStart => exact ⟨n', k, by omega, Nat.le_refl _, rfl, rfl, S⟩
      case round =>
        clear S
        obtain ⟨i, k, hq, hi, rfl, rfl, S⟩ := hrel
        have HQ := Lib.hid hq
        by_cases lt : i < n
        · clear hq il
          have il2 : (i : Int) < n := by omega
          have il3 : (i : Int) < ns := by omega
          have il0 : (0 : Int) ≤ i := by omega
          have i1 : i < xs.length := by rw [EX.out]; omega
          obtain ⟨ss, hl, lo, hv, r⟩ := S.ss
          obtain ⟨ad, rfl, c1⟩ := HX.out i i1 ss wr hl S.t r
          have c3 := r.cell' (part_at zs ss o i (by omega) hl)
          have f3 := r.melt (o + i)
          have bx := LX.out.at_ i i1
          have hk := S.k1
          have ST := Lib.hid (S.step xs[i] 0 bx (by omega) (val_take_succ xs i i1) (by rw [List.take_of_length_le (by rw [EY.out]; omega), List.take_of_length_le (by rw [EY.out]; omega), Nat.mul_zero, Nat.add_zero]) (by omega))
          generalize xs[i] = x at *
          generalize zs[o + i]'(by omega) = z at *
          clear ss hl lo hv r S
          have KA := Lib.hid (add32 x 0 k bx (by omega) hk)
          go_wp2_with fail
          refine (KA.out _).mono ?_
          rintro e w1 ⟨rfl, rfl⟩
          go_wp2_with fail
          go_roundg (gk - 1)
          case measure => have := HQ.out; omega
          case rel =>
            go_light
            have T := ST.out
            rw [Nat.add_zero] at T
            refine ⟨i + 1, _, by have := HQ.out; omega, by omega, by go_num, rfl, ?_⟩
            rw [u32_mod2]
            exact T
        · obtain rfl : n = i := by omega
          have il2 : ¬ (n : Int) < n := by omega
          go_wp2_with fail
          go_ret
          exact ⟨k, rfl, S⟩
end Go.Proofs.YthollkngfibgaaaDoor
namespace Go.Proofs.YthollkngfibgaaaDoor
open Go.RowKit

theorem Src.old {w : World} {o : Nat} {zs : List Nat} {A : Option Addr} {n c : Nat} {xs : List Nat} (l : Lim w A n c xs) (ob : Obj) : Src (w.alloc ob) w.heap.size o zs A xs := by
  by_cases hn : 0 < n
  · exact Src.far (l.alloc ob) (fun ad e => l.new_ne ad e hn)
  · intro i h
    have := l.len
    omega
theorem sum_done {w w1 : World} {g n k : Nat} {xs ys : List Nat} (h : Sum w g 0 (List.replicate (n + 1) 0) xs ys n k w1) (hx : xs.length = n) (hy : ys.length ≤ n) :
    ∃ ss, ss.length = n + 1 ∧ val ss = val xs + val ys ∧ Row (w1.setCell ⟨g, n, none⟩ (lv k)) g ss := by
  obtain ⟨ss, hl, lo, hv, r⟩ := h.ss
  rw [List.take_of_length_le (by omega), List.take_of_length_le (by omega)] at hv
  have hk := h.k1
  have e : (List.replicate (n + 1) 0).take 0 ++ ss ++ (List.replicate (n + 1) 0).drop (0 + n) = ss ++ [0] := by simp
  rw [e] at r
  refine ⟨ss ++ [k], by simp [hl], by rw [val_snoc, hl, hv], ?_⟩
  have := r.set_ n k (by omega)
  rwa [List.set_append_right _ _ (by omega), hl, Nat.sub_self, List.set_cons_zero] at this

theorem RetN.lim {r : Nat} {w : World} {e : Ending} {w' : World} (h : RetN r w e w') : ∃ A n c, e = .returned (.slice A n c) ∧ Lim w' A n c (limbs r) ∧ Below w.heap.size w w' := h
/-- Refused: what is no natural. -/
def NoTwo (xs ys : List Nat) : Prop := ¬ (Nt xs ∧ Nt ys)
theorem rights_no {A A' : Option Addr} {n c n' c' : Nat} {xs ys : List Nat} {w : World} (ha : Lim w A n c xs) (hb : Lim w A' n' c' ys) (h : NoTwo xs ys) :
    (∃ _ : Nt xs, (∀ w' : World, w = w' → Calls Tryd.prog 45 #[.slice A n c] w' fun e w'' => e = .returned (.bool true) ∧ w' = w'') ∧ (∀ w' : World, w = w' → Calls Tryd.prog 45 #[.slice A' n' c'] w' fun e w'' => e = .returned (.bool false) ∧ w' = w'')) ∨
    (∀ w' : World, w = w' → Calls Tryd.prog 45 #[.slice A n c] w' fun e w'' => e = .returned (.bool false) ∧ w' = w'') := by
  by_cases ka : Nt xs
  · refine Or.inl ⟨ka, ?_, ?_⟩
    · rintro w' rfl
      exact right_yes (ka.eq ha.lo ▸ ha) (by unfold ln; rw [← ka.eq ha.lo]; exact ka.1)
    · rintro w' rfl
      exact right_no hb (fun x => h ⟨ka, x⟩)
  · refine Or.inr ?_
    rintro w' rfl
    exact right_no ha ka
end Go.Proofs.YthollkngfibgaaaDoor
namespace Go.Proofs.YthollkngfibgaaaDoor
open Go.RowKit

/-- What is in the loops of difference. -/
structure Dif (w : World) (g n : Nat) (xs ys : List Nat) (i k : Nat) (wr : World) : Prop where
  ss : ∃ ss, ss.length = i ∧ Lo ss ∧ val (xs.take i) + B ^ i * k = val ss + val (ys.take i) ∧ Row wr g (ss ++ (List.replicate n 0).drop i)
  k1 : k ≤ 1
  t : Turn w wr g
theorem Dif.drew {w : World} {g n : Nat} {xs ys : List Nat} {i k : Nat} {wr : World} (h : Dif w g n xs ys i k wr) : Dif w g n xs ys i k wr.drew := by
  obtain ⟨ss, a, b, c, r⟩ := h.ss
  exact ⟨⟨ss, a, b, c, r.drew⟩, h.k1, h.t.drew⟩
theorem dif_limb (x y k : Nat) (hx : x < 4294967296) (hy : y < 4294967296) (hk : k ≤ 1) : x + 4294967296 * bor x (y + k) = (x + 8589934592 - y - k) % 4294967296 + y + k := by
  by_cases h : x < y + k
  · rw [bor_yes h]; omega
  · rw [bor_no h]; omega
theorem dif_step {P s t v x y k b d : Nat} (h : s + P * k = v + t) (e : x + 4294967296 * b = d + y + k) : s + P * x + P * 4294967296 * b = v + P * d + (t + P * y) := by
  have : P * x + P * 4294967296 * b = P * d + P * y + P * k := by
    rw [Nat.mul_assoc, ← Nat.mul_add, e, Nat.mul_add, Nat.mul_add]
  omega
theorem Dif.step {w : World} {g n : Nat} {xs ys : List Nat} {i k : Nat} {wr : World} (h : Dif w g n xs ys i k wr) (x y : Nat) (hx : x < 4294967296) (hy : y < 4294967296)
    (ex : val (xs.take (i + 1)) = val (xs.take i) + B ^ i * x) (ey : val (ys.take (i + 1)) = val (ys.take i) + B ^ i * y) (hz : i < n) :
    Dif w g n xs ys (i + 1) (bor x (y + k)) (wr.setCell ⟨g, i, none⟩ (lv ((x + 8589934592 - y - k) % 4294967296))) := by
  obtain ⟨ss, hl, lo, hv, r⟩ := h.ss
  have hk := h.k1
  refine ⟨⟨ss ++ [(x + 8589934592 - y - k) % 4294967296], by simp [hl], lo.append (.cons (Nat.mod_lt _ (by decide)) .nil), ?_, ?_⟩, bor_le _ _, h.t.setCell _ _⟩
  · rw [val_snoc, hl, ex, ey, Nat.pow_succ]
    have := dif_step hv (dif_limb x y k hx hy hk)
    rw [B_eq] at *
    omega
  · have := r.set_ i ((x + 8589934592 - y - k) % 4294967296) (Nat.mod_lt _ (by decide))
    have e := set_part (List.replicate n 0) ss ((x + 8589934592 - y - k) % 4294967296) 0 i (by simp; omega) hl
    simp only [List.take_zero, List.nil_append, Nat.zero_add] at e
    rwa [e] at this
theorem Dif.cell {w : World} {g n : Nat} {xs ys : List Nat} {i k : Nat} {wr : World} (h : Dif w g n xs ys i k wr) (hi : i < n) : wr.cell? ⟨g, i, none⟩ = some (lv 0) ∧ wr.frozen? ⟨g, i, none⟩ = false := by
  obtain ⟨ss, hl, lo, hv, r⟩ := h.ss
  refine ⟨?_, r.melt _⟩
  have := part_at (List.replicate n 0) ss 0 i (by simp; omega) hl
  simp only [List.take_zero, List.nil_append, Nat.zero_add, List.getElem_replicate] at this
  exact r.cell' this
theorem Dif.done {w : World} {g n : Nat} {xs ys : List Nat} {k : Nat} {wr : World} (h : Dif w g n xs ys n k wr) (hx : xs.length = n) (hy : ys.length ≤ n) (hle : val ys ≤ val xs) :
    ∃ ss, ss.length = n ∧ val ss = val xs - val ys ∧ Row wr g ss := by
  obtain ⟨ss, hl, lo, hv, r⟩ := h.ss
  rw [List.take_of_length_le (by omega), List.take_of_length_le (by omega)] at hv
  have e : ss ++ (List.replicate n 0).drop n = ss := by simp
  rw [e] at r
  refine ⟨ss, hl, ?_, r⟩
  have l := val_lt lo
  rw [hl] at l
  have hk := h.k1
  have : k = 0 ∨ k = 1 := by omega
  rcases this with rfl | rfl
  · omega
  · rw [Nat.mul_one] at hv; omega
theorem u32_sub (x y k : Nat) (hx : x < 4294967296) (hy : y < 4294967296) (hk : k ≤ 1) : ((((x + 8589934592 - y - k) % 4294967296 : Nat)) : Int) = ((x : Int) + 8589934592 - y - k) % 4294967296 := by omega

end Go.Proofs.YthollkngfibgaaaDoor
namespace Go.Proofs.YthollkngfibgaaaDoor
open Go.RowKit

theorem val_set (ps : List Nat) (k v : Nat) (h : k < ps.length) : val (ps.set k v) + B ^ k * ps[k] = val ps + B ^ k * v := by
  induction ps generalizing k with
  | nil => simp at h
  | cons x r ih =>
    cases k with
    | zero => simp [val_cons]; omega
    | succ k =>
      have := ih k (by simpa using h)
      simp only [List.set_cons_succ, val_cons, List.getElem_cons_succ, Nat.pow_succ]
      have e : B * (val (r.set k v) + B ^ k * r[k]'(by simpa using h)) = B * (val r + B ^ k * v) := by rw [this]
      rw [Nat.mul_add, Nat.mul_add, ← Nat.mul_assoc, ← Nat.mul_assoc, Nat.mul_comm B (B ^ k)] at e
      omega
theorem cast_div (x y p k : Nat) : ((x : Int) * (y : Int) + (p : Int) + (k : Int)) / 4294967296 = (((x * y + p + k) / 4294967296 : Nat) : Int) := by
  rw [← Int.natCast_mul]; generalize x * y = q; omega
theorem cast_mod (x y p k : Nat) : ((x : Int) * (y : Int) + (p : Int) + (k : Int)) % 4294967296 = (((x * y + p + k) % 4294967296 : Nat) : Int) := by
  rw [← Int.natCast_mul]; generalize x * y = q; omega
/-- What is in the loops of product. -/
structure Prd (w : World) (g N : Nat) (xs ys : List Nat) (x i j k : Nat) (wr : World) : Prop where
  ps : ∃ ps, ps.length = N ∧ val ps + B ^ (i + j) * k = val (xs.take i) * val ys + B ^ i * x * val (ys.take j) ∧ (∀ t, i + ys.length ≤ t → t < N → ps[t]? = some 0) ∧ Row wr g ps
  kb : k < 4294967296
  t : Turn w wr g
theorem prd_step {P V S p x y k T v : Nat} (h : V + P * k = S) (e : v + P * p = V + P * (T % 4294967296)) (ht : T = x * y + p + k) : v + P * 4294967296 * (T / 4294967296) = S + P * (x * y) := by
  have e2 : T = T % 4294967296 + 4294967296 * (T / 4294967296) := by omega
  have e3 : P * T = P * (T % 4294967296) + P * 4294967296 * (T / 4294967296) := by
    conv => lhs; rw [e2, Nat.mul_add, ← Nat.mul_assoc]
  have e4 : P * T = P * (x * y) + P * p + P * k := by rw [ht, Nat.mul_add, Nat.mul_add]
  omega
theorem Prd.step {w : World} {g N : Nat} {xs ys : List Nat} {x i j k : Nat} {wr : World} (h : Prd w g N xs ys x i j k wr) (y : Nat) (hx : x < 4294967296) (hy : y < 4294967296) (hj : j < ys.length)
    (ey : val (ys.take (j + 1)) = val (ys.take j) + B ^ j * y) (hN : i + ys.length < N) :
    ∃ p, p < 4294967296 ∧ wr.cell? ⟨g, i + j, none⟩ = some (lv p) ∧ wr.frozen? ⟨g, i + j, none⟩ = false ∧
      Prd w g N xs ys x i (j + 1) ((x * y + p + k) / 4294967296) (wr.setCell ⟨g, i + j, none⟩ (lv ((x * y + p + k) % 4294967296))) := by
  obtain ⟨ps, hl, hv, hz, r⟩ := h.ps
  have hk := h.kb
  have hij : i + j < ps.length := by omega
  have hp := r.lo.at_ _ hij
  have hxy : x * y ≤ 4294967295 * 4294967295 := Nat.mul_le_mul (by omega) (by omega)
  refine ⟨ps[i + j], hp, r.cell _ hij, r.melt _, ⟨ps.set (i + j) ((x * y + ps[i + j] + k) % 4294967296), by simp [hl], ?_, ?_, r.set_ _ _ (Nat.mod_lt _ (by decide))⟩, ?_, h.t.setCell _ _⟩
  · have e := val_set ps (i + j) ((x * y + ps[i + j] + k) % 4294967296) hij
    have := prd_step hv e rfl
    rw [← Nat.add_assoc, Nat.pow_succ, ey]
    rw [show B ^ (i + j) * B = B ^ (i + j) * 4294967296 by rw [B_eq]]
    rw [this, Nat.mul_add, Nat.pow_add, Nat.add_assoc]
    congr 1
    congr 1
    rw [Nat.mul_assoc, Nat.mul_assoc, Nat.mul_left_comm x, ]
  · intro t h1 h2
    rw [List.getElem?_set_ne (by omega)]
    exact hz t h1 h2
  · generalize x * y = q at *
    omega
theorem Prd.turn {w : World} {g N : Nat} {xs ys : List Nat} {x i k : Nat} {wr : World} (h : Prd w g N xs ys x i ys.length k wr) (hi : i < xs.length) (hx : xs[i] = x) (hN : i + ys.length < N) (x' : Nat) :
    wr.cell? ⟨g, i + ys.length, none⟩ = some (lv 0) ∧ wr.frozen? ⟨g, i + ys.length, none⟩ = false ∧ Prd w g N xs ys x' (i + 1) 0 0 (wr.setCell ⟨g, i + ys.length, none⟩ (lv k)) := by
  obtain ⟨ps, hl, hv, hz, r⟩ := h.ps
  have hk := h.kb
  have h0 := hz (i + ys.length) (Nat.le_refl _) hN
  have hij : i + ys.length < ps.length := by omega
  have hp : ps[i + ys.length] = 0 := (List.getElem?_eq_some_iff.1 h0).2
  refine ⟨r.cell' h0, r.melt _, ⟨ps.set (i + ys.length) k, by simp [hl], ?_, ?_, r.set_ _ _ hk⟩, by omega, h.t.setCell _ _⟩
  · have e := val_set ps (i + ys.length) k hij
    rw [hp, Nat.mul_zero, Nat.add_zero] at e
    rw [e, hv, List.take_of_length_le (Nat.le_refl _), val_take_succ xs i hi, hx, Nat.add_mul, Nat.mul_zero, Nat.add_zero, List.take_zero, val_nil, Nat.mul_zero, Nat.add_zero]
  · intro t h1 h2
    rw [List.getElem?_set_ne (by omega)]
    exact hz t (by omega) h2

set_option maxHeartbeats 4000000 in
set_option maxRecDepth 100000 in
theorem product_any {A A' : Option Addr} {n c n' c' a b : Nat} {w : World} (ha : Lim w A n c (limbs a)) (hb : Lim w A' n' c' (limbs b)) (la : ln a ≤ 64) (lb : ln b ≤ 64) :
    Calls Tryd.prog 91 #[.slice A n c, .slice A' n' c'] w fun e w' => RetN (a * b) w e w' := by
  have hl := ha.len; have hl' := hb.len
  rw [limbs_length] at hl hl'
  have hmk : ∀ W : World, (Instr.makeSlice 28 (.int .i64 ((n : Int) + (n' : Int))) (.int .i64 ((n : Int) + (n' : Int)))).run Tryd.prog W = .ok (.slice (some ⟨W.heap.size, 0, none⟩) (n + n') (n + n')) (W.alloc (zrow (n + n'))) := make_u32 (n + n') (by omega)
  have S0 : Prd (w.alloc (zrow (n + n'))) w.heap.size (n + n') (limbs a) (limbs b) 0 0 0 0 (w.alloc (zrow (n + n'))) := by
    refine ⟨⟨List.replicate (n + n') 0, by simp, by rw [List.take_zero, List.take_zero, val_nil, Nat.mul_zero, Nat.mul_zero, Nat.zero_mul, val_zeros], fun t _ h2 => ?_, Row.zeros w _⟩, by omega, Turn.refl _ _⟩
    rw [List.getElem?_replicate, if_pos h2]
  have LA := Lib.hid (ha.alloc (zrow (n + n'))); have LB := Lib.hid (hb.alloc (zrow (n + n')))
  have NA := Lib.hid ha.new_ne; have NB := Lib.hid hb.new_ne
  have hBl : Below w.heap.size w (w.alloc (zrow (n + n'))) := (Below.refl _ _).alloc (Nat.le_refl _) _
  have HL := Lib.hid ha.len; have HL' := Lib.hid hb.len
  have hn64 : n ≤ 64 := by omega
  have hn64' : n' ≤ 64 := by omega
  clear ha hb la lb hl hl'
  go_enter Tryd.func91, Tryd.ntmps91
  go_wp2_with fail
  generalize w.alloc (zrow (n + n')) = wa at *
  generalize hg : w.heap.size = g at *
  have HG := Lib.hid hg
  clear hg
  go_loopg [20] n (fun q s20 wr => ∃ i x, i + q = n ∧ s20 = .int .i64 (i : Int) ∧ Prd wa g (n + n') (limbs a) (limbs b) x i 0 0 wr)
  case atStart => exact ⟨0, 0, by omega, rfl, S0⟩
  case round =>
    clear S0
    obtain ⟨i, x, hq, rfl, S⟩ := hrel
    have HQ := Lib.hid hq
    by_cases lt : i < n
    · clear hq
      have il : (i : Int) < n := by omega
      have il0 : (0 : Int) ≤ i := by omega
      have i1 : i < (limbs a).length := by rw [HL.out]; omega
      obtain ⟨ad, rfl, c1⟩ := (turn_lim S.t LA.out NA.out).at_ i i1
      have bx := (lo_limbs a).at_ i i1
      obtain ⟨x1, hx1⟩ : ∃ x1, (limbs a)[i] = x1 := ⟨_, rfl⟩
      have S1 : Prd wa g (n + n') (limbs a) (limbs b) x1 i 0 0 wr := by
        obtain ⟨ps, p1, p2, p3, p4⟩ := S.ps
        refine ⟨⟨ps, p1, ?_, p3, p4⟩, S.kb, S.t⟩
        rw [List.take_zero, val_nil, Nat.mul_zero, Nat.add_zero] at p2 ⊢
        exact p2
      have HX1 := Lib.hid hx1
      rw [hx1] at c1 bx
      clear S hx1 x
      go_wp2_with fail
      go_loopg [8, 27] n' (fun q s8 s27 wr => ∃ j k : Nat, j + q = n' ∧ s27 = .int .i64 (j : Int) ∧ s8 = .int .u64 (k : Int) ∧ Prd wa g (n + n') (limbs a) (limbs b) x1 i j k wr)
      case atStart => exact ⟨0, 0, by omega, rfl, rfl, S1⟩
      case round =>
        clear S1 c1
        obtain ⟨j, k, hq2, rfl, rfl, S⟩ := hrel
        have HQ2 := Lib.hid hq2
        by_cases lt2 : j < n'
        · clear hq2
          have jl : (j : Int) < n' := by omega
          have jl0 : (0 : Int) ≤ j := by omega
          have i2 : j < (limbs b).length := by rw [HL'.out]; omega
          obtain ⟨ad', rfl, c2⟩ := (turn_lim S.t LB.out NB.out).at_ j i2
          have bY := (lo_limbs b).at_ j i2
          obtain ⟨p, bp, c3, f3, ST⟩ := S.step _ bx bY i2 (val_take_succ _ j i2) (by rw [HL'.out]; omega)
          have ST := Lib.hid ST
          generalize (limbs b)[j] = y at *
          have bk := S.kb
          have hxy : x1 * y ≤ 4294967295 * 4294967295 := Nat.mul_le_mul (by omega) (by omega)
          have exy : ((x1 * y : Nat) : Int) = (x1 : Int) * (y : Int) := Int.natCast_mul _ _
          have hxy1 : (x1 : Int) * (y : Int) ≤ 18446744065119617025 := by omega
          have hxy0 : 0 ≤ (x1 : Int) * (y : Int) := by omega
          have ij1 : (i : Int) + j < n + n' := by omega
          have ij0 : (0 : Int) ≤ (i : Int) + j := by omega
          clear S exy hxy
          go_wp2_with fail
          go_roundg (gk - 1)
          case measure => have := HQ2.out; omega
          case rel =>
            go_light
            refine ⟨j + 1, _, by have := HQ2.out; omega, by go_num, congrArg (Value.int .u64) (cast_div x1 y p k), ?_⟩
            rw [cast_mod x1 y p k]
            exact ST.out
        · obtain rfl : n' = j := by omega
          have jl : ¬ (n' : Int) < n' := by omega
          have bk := S.kb
          have i2 : i < (limbs a).length := i1
          have T := S
          rw [← HL'.out] at T
          obtain ⟨c3, f3, ST⟩ := T.turn i2 HX1.out (by rw [HL'.out]; omega) 0
          rw [HL'.out] at c3 f3 ST
          have ST := Lib.hid ST
          have ij1 : (i : Int) + n' < n + n' := by omega
          have ij0 : (0 : Int) ≤ (i : Int) + n' := by omega
          clear S T hq2 lt2
          go_wp2_with fail
          go_roundg (n - (i + 1))
          case measure => have := HQ.out; omega
          case rel =>
            go_light
            exact ⟨i + 1, 0, by have := HQ.out; omega, by go_num, ST.out⟩
    · obtain rfl : n = i := by omega
      have il : ¬ (n : Int) < n := by omega
      obtain ⟨ps, p1, p2, p3, R⟩ := S.ps
      rw [Nat.mul_zero, Nat.add_zero, List.take_zero, val_nil, Nat.mul_zero, Nat.add_zero, List.take_of_length_le (by rw [HL.out]; exact Nat.le_refl _), val_limbs, val_limbs] at p2
      have T := hBl.trans (S.t.below (Nat.le_refl _))
      have TR := trim_any (R.lim (o := 0) (n := n + n') (c := n + n') (by omega) (Nat.le_refl _) (by omega))
      rw [List.drop_zero, List.take_of_length_le (by omega), p2] at TR
      have TR := Lib.hid TR
      clear R S p1 p2 p3 hq HQ
      go_wp2_with fail
      refine TR.out.mono ?_
      rintro e w2 ⟨A2, n2, c2, rfl, L2, rfl⟩
      go_wp2_with fail
      go_ret
      exact ⟨_, _, _, rfl, L2, by rw [HG.out]; exact T⟩

set_option maxRecDepth 100000 in
theorem mul_any {A A' : Option Addr} {n c n' c' a b : Nat} {w : World} (ha : Lim w A n c (limbs a)) (hb : Lim w A' n' c' (limbs b)) (la : ln a ≤ 64) (lb : ln b ≤ 64) :
    Calls Tryd.prog 80 #[.slice A n c, .slice A' n' c'] w fun e w' => RetE (fitN (a * b)) (fitE (a * b)) w e w' := by
  have RA := Lib.hid (right_yes ha la); have RB := Lib.hid (right_yes hb lb)
  have K := Lib.hid (product_any ha hb la lb)
  clear ha hb la lb
  go_enter Tryd.func80, Tryd.ntmps80
  go_wp2_with fail
  refine RA.out.mono ?_
  rintro e w' ⟨rfl, rfl⟩
  go_wp2_with fail
  refine RB.out.mono ?_
  rintro e w' ⟨rfl, rfl⟩
  go_wp2_with fail
  refine K.out.mono ?_
  rintro e w1 ⟨A1, n1, c1, rfl, L1, B1⟩
  go_wp2_with fail
  refine (fitting_any L1).mono ?_
  rintro e w2 ⟨A2, n2, c2, rfl, L2, B2⟩
  go_wp2_with fail
  go_ret2
  exact ⟨_, _, _, rfl, L2, below_step B1 B2⟩
set_option maxRecDepth 100000 in
theorem mul_none {A A' : Option Addr} {n c n' c' : Nat} {xs ys : List Nat} {w : World} (ha : Lim w A n c xs) (hb : Lim w A' n' c' ys) (h : NoTwo xs ys) :
    Calls Tryd.prog 80 #[.slice A n c, .slice A' n' c'] w fun e w' => e = .returned (.tuple #[.slice none 0 0, .int .i64 1]) ∧ w = w' := by
  rcases rights_no ha hb h with ⟨_, RA, RB⟩ | RA
  · have RA := Lib.hid RA; have RB := Lib.hid RB
    clear ha hb h
    go_enter Tryd.func80, Tryd.ntmps80
    go_wp2_with fail
    refine (RA.out _ rfl).mono ?_
    rintro e w' ⟨rfl, rfl⟩
    go_wp2_with fail
    refine (RB.out _ rfl).mono ?_
    rintro e w' ⟨rfl, rfl⟩
    go_wp2_with fail
    go_ret2
    exact ⟨rfl, rfl⟩
  · have RA := Lib.hid RA
    clear ha hb h
    go_enter Tryd.func80, Tryd.ntmps80
    go_wp2_with fail
    refine (RA.out _ rfl).mono ?_
    rintro e w' ⟨rfl, rfl⟩
    go_wp2_with fail
    go_ret2
    exact ⟨rfl, rfl⟩
end Go.Proofs.YthollkngfibgaaaDoor
