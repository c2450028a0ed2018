/- The walks of trim and wordsOf of draw. -/
import Derived.Test.YthhphbaimpcjfaaDM
import Derived.Test.YthhphbaimpcjfaaDN2
namespace Go.Proofs.Ythhphbaimpcjfaa
open Go.RowKit
set_option linter.unusedVariables false
set_option linter.unusedSimpArgs false
set_option maxHeartbeats 1000000 in
set_option maxRecDepth 100000 in
theorem dtrim_at {A : Option Addr} {n c : Nat} {xs : List Nat} {w : World} (h : Lim w A n c xs) : Calls Try.prog 30 #[.slice A n c] w fun e w' => RetA A xs w e w' := by
  have H := Lib.hid h
  have hc := h.cap; have ht := h.top
  clear h
  go_enter Try.func30, Try.ntmps30
  go_wp2_with fail
  go_loopg [0] n (fun g s0 wr => g ≤ n ∧ s0 = .slice A g c ∧ Hid (val (xs.take g) = val xs) ∧ w = wr)
  case atStart => exact ⟨Nat.le_refl _, rfl, by unfold Hid; rw [List.take_of_length_le (by rw [H.out.len]; exact Nat.le_refl _)], rfl⟩
  case round =>
    obtain ⟨hg, rfl, hv, rfl⟩ := hrel
    have HT := Lib.hid (H.out.take hg)
    by_cases hz : gk = 0
    · subst hz
      have HV : Hid (limbs (val xs) = []) := by unfold Hid; rw [← hv.out]; simp [val_nil, limbs_zero]
      go_wp2_with fail
      go_ret
      exact ⟨none, 0, 0, rfl, by rw [HV.out]; exact Lim.none_ _ _ _ (by omega), (fun _ e => by cases e), rfl⟩
    · obtain ⟨k, rfl⟩ : ∃ k, gk = k + 1 := ⟨gk - 1, by omega⟩
      obtain ⟨ad, rfl⟩ := H.out.some_ (by omega)
      have hkx : k < xs.length := by rw [H.out.len]; omega
      have hcell := H.out.cell k hkx
      by_cases hx : xs[k] = 0
      · have HV : Hid (val (xs.take k) = val xs) := by
          unfold Hid; rw [← hv.out, val_take_succ xs k hkx, hx, Nat.mul_zero, Nat.add_zero]
        rw [hx] at hcell
        clear hx hv HT
        go_wp2_with fail
        go_roundg k
        case measure => omega
        case rel => exact ⟨by omega, rfl, HV, rfl⟩
      · have HV : Hid (limbs (val xs) = xs.take (k + 1)) := by
          unfold Hid
          rw [← hv.out]
          refine limbs_val (H.out.lo.take _) (getLast_ne (x := xs[k]) ?_ hx)
          rw [List.length_take, Nat.min_eq_left (by omega), Nat.add_sub_cancel, List.getElem?_take, if_pos (by omega), List.getElem?_eq_getElem hkx]
        generalize xs[k] = x at *
        have h2 : ((x : Int) == 0) = false := by simpa using hx
        clear hx hv
        go_wp2_with fail
        go_ret
        exact ⟨_, _, _, rfl, by rw [HV.out]; exact HT.out, (fun _ e => e), rfl⟩
set_option maxRecDepth 100000 in
theorem wordsOf_any (A : Option Addr) (n c : Nat) (hn : n ≤ 1000) (w : World) : Calls Try.prog 28 #[.slice A n c] w fun e w' => e = .returned (.int .i64 (((n + 1) / 2 : Nat) : Int)) ∧ w = w' := by
  have e1 : Hid (((n : Int) + 1).tdiv 2 = (((n + 1) / 2 : Nat) : Int)) := by unfold Hid; exact (Int.ofNat_tdiv (n + 1) 2).symm
  have e0 : (n : Int) + 2 - 1 = (n : Int) + 1 := by omega
  go_enter Try.func28, Try.ntmps28
  go_wp2_with fail
  go_ret
  exact ⟨congrArg (fun z => Ending.returned (.int .i64 z)) e1.out, rfl⟩
end Go.Proofs.Ythhphbaimpcjfaa
