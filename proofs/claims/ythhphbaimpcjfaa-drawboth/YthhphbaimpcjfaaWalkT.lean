/- The walks of Same and awake. -/
import Derived.Test.YthhphbaimpcjfaaWalkH
namespace Go.Proofs.Ythhphbaimpcjfaa
open Go.RowKit
set_option linter.unusedVariables false
set_option linter.unusedSimpArgs false

/-- Are limbs the same? -/
@[irreducible] def sameB (xs ys : List Nat) : Bool := decide (xs = ys)
theorem sameB_yes (xs : List Nat) : sameB xs xs = true := by unfold sameB; simp
theorem sameB_no {xs ys : List Nat} (h : xs ≠ ys) : sameB xs ys = false := by unfold sameB; simpa using h
theorem sameB_iff {xs ys : List Nat} : sameB xs ys = true ↔ xs = ys := by unfold sameB; simp
theorem take_differ {xs ys : List Nat} {k : Nat} (hx : k < xs.length) (hy : k < ys.length) (h : xs[k] ≠ ys[k]) : xs ≠ ys := by
  rintro rfl; exact h rfl
set_option maxHeartbeats 1000000 in
set_option maxRecDepth 100000 in
theorem same_any {A A' : Option Addr} {n c n' c' : Nat} {xs ys : List Nat} {w : World} (ha : Lim w A n c xs) (hb : Lim w A' n' c' ys) :
    Calls Try.prog 15 #[.slice A n c, .slice A' n' c'] w fun e w' => e = .returned (.bool (sameB xs ys)) ∧ ∃ m, w' = w.drewN m := by
  have hl := ha.len; have hl' := hb.len
  by_cases hn : n = n'
  · subst hn
    have HA := Lib.hid ha; have HB := Lib.hid hb
    have h0 : ((n : Int) != n) = false := by simp
    have ht := ha.top; have hc := ha.cap
    have HL := Lib.hid hl; have HL' := Lib.hid hl'
    clear ha hb hl hl'
    go_enter Try.func15, Try.ntmps15
    go_wp2_with fail
    go_loopg [5] n (fun q s5 wr => ∃ k m : Nat, k + q = n ∧ s5 = .int .i64 (k : Int) ∧ Hid (xs.take k = ys.take k) ∧ wr = w.drewN m)
    case atStart => exact ⟨0, 0, by omega, rfl, rfl, rfl⟩
    case round =>
      obtain ⟨k, m, hq, rfl, he, rfl⟩ := hrel
      have HQ := Lib.hid hq
      by_cases lt : k < n
      · have il : (k : Int) < n := by omega
        have il0 : (0 : Int) ≤ k := by omega
        obtain ⟨ad, rfl⟩ := HA.out.some_ (by omega)
        obtain ⟨ad', rfl⟩ := HB.out.some_ (by omega)
        have kx : k < xs.length := by rw [HL.out]; omega
        have ky : k < ys.length := by rw [HL'.out]; omega
        have c1 := HA.out.cell k kx
        have c2 := HB.out.cell k ky
        by_cases hx : xs[k] = ys[k]
        · have HE : Hid (xs.take (k + 1) = ys.take (k + 1)) := by unfold Hid; rw [take_snoc xs k kx, take_snoc ys k ky, he.out, hx]
          rw [← hx] at c2
          generalize xs[k] = x at *
          have h2 : ((x : Int) != x) = false := by simp
          clear hx hq he
          go_wp2_with fail
          go_quiet (fail)
          go_wp2_with fail
          go_roundg (gk - 1)
          case measure => have := HQ.out; omega
          case rel => exact ⟨k + 1, m + nq, by have := HQ.out; omega, by go_num, HE, rfl⟩
        · have ES := Lib.hid (sameB_no (take_differ kx ky hx))
          generalize xs[k] = x at *
          generalize ys[k] = y at *
          have h2 : ((x : Int) != y) = true := by simp; omega
          clear hx hq he
          go_wp2_with fail
          go_quiet (fail)
          go_wp2_with fail
          go_ret
          exact ⟨by rw [ES.out]; rfl, m + nq, World.drewN_drewN _ _ _⟩
      · obtain rfl : n = k := by omega
        have il : ¬ (n : Int) < n := by omega
        have e : xs = ys := by
          have := he.out
          rwa [List.take_of_length_le (by rw [HL.out]; exact Nat.le_refl _), List.take_of_length_le (by rw [HL'.out]; exact Nat.le_refl _)] at this
        subst e
        have ES := Lib.hid (sameB_yes xs)
        clear hq he
        go_wp2_with fail
        go_ret
        exact ⟨by rw [ES.out]; rfl, _, rfl⟩
  · have ES := Lib.hid (sameB_no (xs := xs) (ys := ys) (by rintro rfl; omega))
    have h0 : ((n : Int) != n') = true := by simp; omega
    clear ha hb hl hl'
    go_enter Try.func15, Try.ntmps15
    go_wp2_with fail
    go_ret
    exact ⟨by rw [ES.out]; rfl, 0, rfl⟩
/-- .. and nothing that was there has turned. -/
theorem same_bel {A A' : Option Addr} {n c n' c' : Nat} {xs ys : List Nat} {w : World} (ha : Lim w A n c xs) (hb : Lim w A' n' c' ys) :
    Calls Try.prog 15 #[.slice A n c, .slice A' n' c'] w fun e w' => e = .returned (.bool (sameB xs ys)) ∧ Below w.heap.size w w' :=
  (same_any ha hb).mono fun _ _ ⟨he, m, hm⟩ => ⟨he, by subst hm; exact below_drewN (Below.refl _ _) m⟩
theorem cmp_bel {A A' : Option Addr} {n c n' c' a b : Nat} {w : World} (ha : Lim w A n c (limbs a)) (hb : Lim w A' n' c' (limbs b)) (la : ln a ≤ 64) (lb : ln b ≤ 64) :
    Calls Try.prog 31 #[.slice A n c, .slice A' n' c'] w fun e w' => e = .returned (.int .i64 (sgn a b)) ∧ Below w.heap.size w w' :=
  (cmp_any ha hb la lb).mono fun _ _ ⟨he, m, hm⟩ => ⟨he, by subst hm; exact below_drewN (Below.refl _ _) m⟩

theorem limbs_a : limbs 18446744073709551616 = [0, 0, 1] := by
  have := limbs_val (xs := [0, 0, 1]) (.cons (by decide) (.cons (by decide) (.cons (by decide) .nil))) (fun _ => by simp)
  rwa [val_cons, val_cons, val_cons, val_nil, B_eq] at this
theorem ln_small {n : Nat} (h : n < 340282366920938463463374607431768211457) : ln n ≤ 5 := by
  refine ln_le ?_
  rw [B_eq]
  refine Nat.lt_trans h (by decide +kernel)
theorem bl_m : bl 340282366920938463463374607431768211456 = 129 := bl_of (k := 128) (by decide) (by decide)
end Go.Proofs.Ythhphbaimpcjfaa
