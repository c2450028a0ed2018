/- The document's answers: the walks of mask and Number. -/
import Derived.Test.YthhphbaimpcjfaaDLC
import Derived.Test.YthhphbaimpcjfaaDN3
import Derived.Test.YthhphbaimpcjfaaRefBits
import Derived.Test.YthhphbaimpcjfaaRefOf
import Derived.Test.YthhphbaimpcjfaaWalkX
namespace Go.Proofs.Ythhphbaimpcjfaa
open Go.RowKit
set_option linter.unusedVariables false
set_option linter.unusedSimpArgs false
set_option maxHeartbeats 2000000
set_option maxRecDepth 100000

theorem limbs_1 : limbs 1 = [1] := limbs_one (by decide) (by decide)
theorem val_one : val [1] = 1 := by rw [val_cons, val_nil, Nat.mul_zero]
theorem refMask_any {A : Option Addr} {n c d : Nat} {w : World} (h : Lim w A n c (limbs d)) (hd : d ≠ 0) (hn : n ≤ 100000) : Calls Try.prog 23 #[.slice A n c] w fun e w' => e = .returned (.int .i64 (mb d)) ∧ Below w.heap.size w w' := by
  have hl := h.len
  have hp := ln_pos hd
  rw [limbs_length] at hl
  have R0 := (Row.new_of w [1] #[.int .u32 1] (.cons (by decide) .nil) rfl).lim (o := 0) (n := 1) (c := 1) (by simp) (Nat.le_refl _) (by omega)
  rw [List.drop_zero, List.take_of_length_le (by simp)] at R0
  have KS := refSub_any (h.alloc (.cells #[.int .u32 1] 48)) R0 hn (by omega) (by rw [val_limbs, val_one]; omega)
  rw [val_limbs, val_one] at KS
  have KS := Lib.hid KS
  have KB : Hid (∀ (W : World) A1 n1 c1, Lim W A1 n1 c1 (limbs (d - 1)) → Calls Try.prog 33 #[.slice A1 n1 c1] W fun e w' => e = .returned (.int .i64 (mb d)) ∧ W = w') := by
    intro W A1 n1 c1 h1
    have hk := h1.len
    rw [limbs_length] at hk
    have := ln_mono (show d - 1 ≤ d by omega)
    have K := refBits_any h1 (by omega)
    rw [val_limbs] at K
    exact K
  have BL : Below w.heap.size w (w.alloc (.cells #[.int .u32 1] 48)) := (Below.refl _ _).alloc (Nat.le_refl _) _
  clear h hl hp R0
  go_enter Try.func23, Try.ntmps23
  go_wp2_with fail
  refine KS.out.mono ?_
  rintro e w1 ⟨A1, n1, c1, rfl, L1, B1⟩
  replace B1 := below_step BL B1
  go_wp2_with fail
  refine (KB.out _ _ _ _ L1).mono ?_
  rintro e w2 ⟨rfl, rfl⟩
  go_wp2_with fail
  go_ret
  exact ⟨rfl, B1⟩
theorem num_step {v x : Nat} (hx : x < 4294967296) (hv : 4294967296 * v + x < 18446744073709551616) : IntKind.u64.wrap (IntKind.u64.wrap (4294967296 * (v : Int)) + (x : Int)) = ((x + 4294967296 * v : Nat) : Int) := by
  rw [IntKind.wrap_u64, IntKind.wrap_u64]; omega
theorem val_drop_lt {m : Nat} (h : m < 18446744073709551616) (k : Nat) : val ((limbs m).drop k) < 18446744073709551616 := by
  by_cases hk : k ≤ (limbs m).length
  · have e := val_split (limbs m) k hk
    rw [val_limbs] at e
    have : val ((limbs m).drop k) ≤ B ^ k * val ((limbs m).drop k) := Nat.le_mul_of_pos_left _ (Nat.pow_pos B_pos)
    omega
  · rw [List.drop_of_length_le (by omega), val_nil]; decide
theorem number_any {A : Option Addr} {n c m : Nat} {w : World} (h : Lim w A n c (limbs m)) (hm : m < 18446744073709551616) : Calls Try.prog 13 #[.slice A n c] w fun e w' => e = .returned (wd m) ∧ w = w' := by
  have H := Lib.hid h
  have HL := Lib.hid h.len
  have hn : n ≤ 9223372036854775807 := Nat.le_trans h.cap h.top
  clear h
  go_enter Try.func13, Try.ntmps13
  go_wp2_with fail
  go_loopg [3, 4] n (fun q s3 s4 wr => ∃ v : Nat, q ≤ n ∧ s4 = .int .i64 ((q : Int) - 1) ∧ s3 = .int .u64 (v : Int) ∧ Hid (v = val ((limbs m).drop q)) ∧ w = wr)
  case atStart => exact ⟨0, Nat.le_refl _, rfl, rfl, by unfold Hid; rw [List.drop_of_length_le (by rw [HL.out]; exact Nat.le_refl _), val_nil], rfl⟩
  case round =>
    obtain ⟨v, hq, rfl, rfl, hv, rfl⟩ := hrel
    by_cases hz : gk = 0
    · subst hz
      have ek : ((0 : Nat) : Int) - 1 = -1 := by omega
      rw [ek]
      have E : Hid (v = m) := by unfold Hid; rw [hv.out, List.drop_zero, val_limbs]
      clear ek hv
      go_wp2_with fail
      go_ret
      exact ⟨by rw [E.out]; rfl, rfl⟩
    · obtain ⟨k, rfl⟩ : ∃ k, gk = k + 1 := ⟨gk - 1, by omega⟩
      have ek : ((k + 1 : Nat) : Int) - 1 = (k : Int) := by omega
      rw [ek]
      have kx : k < (limbs m).length := by rw [HL.out]; omega
      obtain ⟨ad, rfl, c1⟩ := H.out.at_ k kx
      have bx := (lo_limbs m).at_ k kx
      have d0 := val_drop _ k kx
      have d1 := val_drop_lt hm k
      rw [d0, ← hv.out, B_eq] at d1
      rw [← hv.out, B_eq] at d0
      have D := Lib.hid d0
      have EN := num_step (v := v) bx (by omega)
      generalize (limbs m)[k] = x at *
      have il0 : (0 : Int) ≤ k := by omega
      have il : (k : Int) < n := by omega
      clear hv d0 d1 ek
      go_wp2_with fail
      go_roundg k
      case measure => omega
      case rel =>
        go_light
        exact ⟨x + 4294967296 * v, by omega, rfl, by first | exact congrArg (Value.int .u64) EN | rfl, D.out.symm, rfl⟩
end Go.Proofs.Ythhphbaimpcjfaa
