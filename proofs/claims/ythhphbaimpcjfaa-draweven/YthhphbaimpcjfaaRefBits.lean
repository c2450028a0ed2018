/- The document's answers: the walk of Bits. -/
import Derived.Test.YthhphbaimpcjfaaWalkU
import Derived.Test.YthhphbaimpcjfaaNumL
namespace Go.Proofs.Ythhphbaimpcjfaa
open Go.RowKit
set_option linter.unusedVariables false
set_option linter.unusedSimpArgs false

theorem bl_step_one (a p : Nat) (h : a / 2 ^ p % 2 = 1) : bl (a % 2 ^ (p + 1)) = p + 1 := by
  have e := Nat.mod_pow_succ (b := 2) (k := p) (x := a)
  rw [h, Nat.mul_one] at e
  refine bl_of ?_ (Nat.mod_lt _ (Nat.two_pow_pos _))
  rw [e]; omega
theorem bl_step_zero (a p : Nat) (h : a / 2 ^ p % 2 = 0) : bl (a % 2 ^ (p + 1)) = bl (a % 2 ^ p) := by
  have e := Nat.mod_pow_succ (b := 2) (k := p) (x := a)
  rw [h, Nat.mul_zero] at e
  rw [e, Nat.add_zero]
theorem two_32 (i : Nat) : 2 ^ (32 * i) = B ^ i := by rw [Nat.pow_mul, B_eq]
theorem bit_limb {xs : List Nat} (lo : Lo xs) (i k : Nat) (hi : i < xs.length) (hk : k < 32) : val xs / 2 ^ (32 * i + k) % 2 = xs[i] / 2 ^ k % 2 := by
  have e := val_split xs i (by omega)
  rw [val_drop xs i hi] at e
  have l := val_lt (lo.take i)
  rw [List.length_take, Nat.min_eq_left (by omega)] at l
  have p : 0 < B ^ i := Nat.pow_pos B_pos
  have e1 : val xs / 2 ^ (32 * i) = xs[i] + B * val (xs.drop (i + 1)) := by
    rw [two_32, e, Nat.add_mul_div_left _ _ p, Nat.div_eq_of_lt l, Nat.zero_add]
  rw [Nat.pow_add, ← Nat.div_div_eq_div_mul, e1, B_eq, ← pow32 (s := k) (by omega), Nat.mul_assoc, Nat.add_mul_div_left _ _ (Nat.two_pow_pos k)]
  obtain ⟨d, hd⟩ : ∃ d, 32 - k = d + 1 := ⟨32 - k - 1, by omega⟩
  rw [hd, Nat.pow_succ, Nat.mul_comm (2 ^ d) 2, Nat.mul_assoc, Nat.add_mul_mod_self_left]
theorem bits_cast (x k : Nat) : (x : Int) / 2 ^ k = ((x / 2 ^ k : Nat) : Int) := by
  have e : (2 : Int) ^ k = ((2 ^ k : Nat) : Int) := by rw [Int.natCast_pow]; rfl
  rw [e]; rfl
theorem tmod_two (y : Nat) : (y : Int).tmod 2 = ((y % 2 : Nat) : Int) := (Int.ofNat_tmod y 2).symm
theorem mod_all (a : Nat) {n : Nat} (h : a < 2 ^ n) : a % 2 ^ n = a := Nat.mod_eq_of_lt h

set_option maxHeartbeats 2000000 in
set_option maxRecDepth 100000 in
theorem refBits_any {A : Option Addr} {n c : Nat} {xs : List Nat} {w : World} (h : Lim w A n c xs) (hn : n ≤ 100000) : Calls Try.prog 33 #[.slice A n c] w fun e w' => e = .returned (.int .i64 (bl (val xs))) ∧ w = w' := by
  have H := Lib.hid h
  have HL := Lib.hid h.len
  have S0 : Hid (bl (val xs % 2 ^ 0) = 0) := by unfold Hid; rw [Nat.pow_zero, Nat.mod_one, bl_zero]
  clear h
  go_enter Try.func33, Try.ntmps33
  go_wp2_with fail
  go_loopg [3, 4] n (fun q s3 s4 wr => ∃ i p b : Nat, i + q = n ∧ s4 = .int .i64 (i : Int) ∧ s3 = .int .i64 (b : Int) ∧ Hid (p = 32 * i) ∧ Hid (bl (val xs % 2 ^ p) = b) ∧ w = wr)
  case atStart => exact ⟨0, 0, 0, by omega, rfl, rfl, rfl, S0, rfl⟩
  case round =>
    clear S0
    obtain ⟨i, p, b, hq, rfl, rfl, ep, S, rfl⟩ := hrel
    have HQ := Lib.hid hq
    by_cases lt : i < n
    · clear hq
      have il : (i : Int) < n := by omega
      have il0 : (0 : Int) ≤ i := by omega
      have ix : i < xs.length := by rw [HL.out]; exact lt
      obtain ⟨ad, rfl, c1⟩ := H.out.at_ i ix
      have KB : Hid (∀ k, k < 32 → val xs / 2 ^ (32 * i + k) % 2 = xs[i] / 2 ^ k % 2) := fun k hk => bit_limb H.out.lo i k ix hk
      have bx := H.out.lo.at_ i ix
      generalize xs[i] = x at *
      have S1 : Hid (bl (val xs % 2 ^ (32 * i + 0)) = b) := by unfold Hid; rw [Nat.add_zero, ← ep.out]; exact S.out
      clear S ep
      go_wp2_with fail
      go_loopg [3, 5] 32 (fun q s3 s5 wr => ∃ k b : Nat, k + q = 32 ∧ s5 = .int .i64 (k : Int) ∧ s3 = .int .i64 (b : Int) ∧ Hid (bl (val xs % 2 ^ (32 * i + k)) = b) ∧ w = wr)
      case atStart => exact ⟨0, b, by omega, rfl, rfl, S1, rfl⟩
      case round =>
        clear S1 b p
        obtain ⟨k, b, hq2, rfl, rfl, S, rfl⟩ := hrel
        have HQ2 := Lib.hid hq2
        by_cases lt2 : k < 32
        · clear hq2
          have kl : (k : Int) < 32 := by omega
          have kl0 : (0 : Int) ≤ k := by omega
          have EK := KB.out k lt2
          by_cases bt : x / 2 ^ k % 2 = 1
          · have S2 : Hid (bl (val xs % 2 ^ (32 * i + (k + 1))) = 32 * i + k + 1) := by unfold Hid; rw [← Nat.add_assoc]; exact bl_step_one _ _ (by rw [EK, bt])
            have E1 : (((x : Int) / 2 ^ k).tmod 2 == 1) = true := by rw [bits_cast, tmod_two]; generalize x / 2 ^ k = y at *; simp; omega
            clear EK S bt
            go_wp2_with fail
            go_roundg (gk - 1)
            case measure => have := HQ2.out; omega
            case rel =>
              go_light
              exact ⟨k + 1, 32 * i + k + 1, by have := HQ2.out; omega, by go_num, congrArg (Value.int .i64) (by omega), S2, rfl⟩
          · have S2 : Hid (bl (val xs % 2 ^ (32 * i + (k + 1))) = b) := by unfold Hid; rw [← Nat.add_assoc, bl_step_zero _ _ (by rw [EK]; omega)]; exact S.out
            have E1 : (((x : Int) / 2 ^ k).tmod 2 == 1) = false := by rw [bits_cast, tmod_two]; generalize x / 2 ^ k = y at *; simp; omega
            clear EK S bt
            go_wp2_with fail
            go_roundg (gk - 1)
            case measure => have := HQ2.out; omega
            case rel =>
              go_light
              exact ⟨k + 1, b, by have := HQ2.out; omega, by go_num, rfl, S2, rfl⟩
        · obtain rfl : 32 = k := by omega
          have S3 : Hid (bl (val xs % 2 ^ (32 * (i + 1))) = b) := S.out
          clear S hq2
          go_wp2_with fail
          go_roundg (n - (i + 1))
          case measure => have := HQ.out; omega
          case rel =>
            go_light
            exact ⟨i + 1, 32 * (i + 1), b, by have := HQ.out; omega, by go_num, rfl, rfl, S3, rfl⟩
    · obtain rfl : n = i := by omega
      have il : ¬ (n : Int) < n := by omega
      have ES : Hid (bl (val xs) = b) := by
        unfold Hid
        rw [← S.out, ep.out]
        congr 1
        refine (mod_all _ ?_).symm
        have := val_lt H.out.lo
        rwa [HL.out, ← two_32] at this
      clear S ep hq
      go_wp2_with fail
      go_ret
      exact ⟨by rw [ES.out]; rfl, rfl⟩
end Go.Proofs.Ythhphbaimpcjfaa
