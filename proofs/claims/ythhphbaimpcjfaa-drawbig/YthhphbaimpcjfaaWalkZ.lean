/- The document's answers: the walks of Right, Small, Cmp, Bits; told. -/
import Derived.Test.YthhphbaimpcjfaaWalkU
import Derived.Test.YthhphbaimpcjfaaNumL
namespace Go.Proofs.Ythhphbaimpcjfaa
open Go.RowKit
set_option linter.unusedVariables false
set_option linter.unusedSimpArgs false

open Classical in
/-- Are limbs a natural's? -/
noncomputable def ntB (xs : List Nat) : Bool := decide (Nt xs)
theorem ntB_yes {xs : List Nat} (h : Nt xs) : ntB xs = true := by unfold ntB; simpa using h
theorem ntB_no {xs : List Nat} (h : ¬ Nt xs) : ntB xs = false := by unfold ntB; simpa using h

set_option maxRecDepth 100000 in
theorem refRight_yes {A : Option Addr} {n c a : Nat} {w : World} (h : Lim w A n c (limbs a)) (hm : ln a ≤ 64) : Calls Try.prog 22 #[.slice A n c] w fun e w' => e = .returned (.bool true) ∧ w = w' := by
  have hl := h.len
  rw [limbs_length] at hl
  by_cases hz : n = 0
  · subst hz
    clear h hl hm
    go_enter Try.func22, Try.ntmps22
    go_wp2
    go_ret
    exact ⟨rfl, rfl⟩
  · obtain ⟨ad, rfl⟩ := h.some_ (by omega)
    have hc := h.cell (n - 1) (by rw [limbs_length]; omega)
    have hx := last_ne_zero (a := a) (k := n - 1) (by rw [limbs_length]; omega)
    generalize (limbs a)[n - 1]'(by rw [limbs_length]; omega) = x at *
    have h1 : ((n : Int) == 0) = false := by simpa using hz
    have h2 : Hid (0 < x) := by unfold Hid; omega
    have h3 : ¬ (64 : Int) < (n : Int) := by omega
    clear hl h hm hx
    go_enter Try.func22, Try.ntmps22
    go_wp2
    go_ret
    exact ⟨congrArg (fun b => Ending.returned (.bool b)) (decide_eq_true h2.out), rfl⟩
set_option maxRecDepth 100000 in
theorem refRight_no {A : Option Addr} {n c : Nat} {xs : List Nat} {w : World} (h : Lim w A n c xs) (hm : ¬ Nt xs) : Calls Try.prog 22 #[.slice A n c] w fun e w' => e = .returned (.bool false) ∧ w = w' := by
  have hl := h.len
  have hz : n ≠ 0 := by
    rintro rfl
    have e := List.eq_nil_of_length_eq_zero hl
    subst e
    exact hm ⟨by simp, fun hn => absurd rfl hn⟩
  have h1 : ((n : Int) == 0) = false := by simpa using hz
  by_cases k : n ≤ 64
  · obtain ⟨j, ej, e0⟩ := Nt.no hm (by omega)
    obtain ⟨ad, rfl⟩ := h.some_ (by omega)
    have hc := h.cell (n - 1) (by omega)
    have ejn : n - 1 = j := by omega
    have e0' : xs[n - 1]'(by omega) = 0 := by
      have := (List.getElem?_eq_some_iff.1 e0).2
      simpa only [ejn] using this
    rw [e0'] at hc
    have h3 : ¬ (64 : Int) < (n : Int) := by omega
    clear hl h hm e0 e0' ejn ej
    go_enter Try.func22, Try.ntmps22
    go_wp2
    go_ret
    exact ⟨rfl, rfl⟩
  · have h3 : (64 : Int) < (n : Int) := by omega
    clear hl h hm
    go_enter Try.func22, Try.ntmps22
    go_wp2
    go_ret
    exact ⟨rfl, rfl⟩
theorem nt_lim {w : World} {A : Option Addr} {n c : Nat} {xs : List Nat} (h : Lim w A n c xs) (k : Nt xs) : Lim w A n c (limbs (val xs)) ∧ ln (val xs) ≤ 64 := by
  refine ⟨k.eq h.lo ▸ h, ?_⟩
  unfold ln
  rw [← k.eq h.lo]
  exact k.1
theorem refRight_any {A : Option Addr} {n c : Nat} {xs : List Nat} {w : World} (h : Lim w A n c xs) : Calls Try.prog 22 #[.slice A n c] w fun e w' => e = .returned (.bool (ntB xs)) ∧ w = w' := by
  by_cases k : Nt xs
  · rw [ntB_yes k]; exact refRight_yes (nt_lim h k).1 (nt_lim h k).2
  · rw [ntB_no k]; exact refRight_no h k
theorem right_any {A : Option Addr} {n c : Nat} {xs : List Nat} {w : World} (h : Lim w A n c xs) : Calls Try.prog 26 #[.slice A n c] w fun e w' => e = .returned (.bool (ntB xs)) ∧ w = w' := by
  by_cases k : Nt xs
  · rw [ntB_yes k]; exact right_yes (nt_lim h k).1 (nt_lim h k).2
  · rw [ntB_no k]; exact right_no h k
set_option maxHeartbeats 1000000 in
set_option maxRecDepth 100000 in
theorem refCmp_any {A A' : Option Addr} {n c n' c' a b : Nat} {w : World} (ha : Lim w A n c (limbs a)) (hb : Lim w A' n' c' (limbs b)) (la : ln a ≤ 100000) (lb : ln b ≤ 100000) :
    Calls Try.prog 25 #[.slice A n c, .slice A' n' c'] w fun e w' => e = .returned (.int .i64 (sgn a b)) ∧ ∃ m, w' = w.drewN m := by
  have HA := Lib.hid ha; have HB := Lib.hid hb
  have hl := ha.len; have hl' := hb.len
  rw [limbs_length] at hl hl'
  by_cases hn : n = n'
  · subst hn
    have EL : Hid (ln a = n) := hl; have EL' : Hid (ln b = n) := hl'
    have n64 : n ≤ 100000 := by omega
    have h0 : ((n : Int) != n) = false := by simp
    clear ha hb hl hl' la lb
    go_enter Try.func25, Try.ntmps25
    go_wp2_with fail
    go_loopg [5] n (fun g s5 wr => ∃ m, g ≤ n ∧ s5 = .int .i64 ((g : Int) - 1) ∧ Hid ((limbs a).drop g = (limbs b).drop g) ∧ wr = w.drewN m)
    case atStart => exact ⟨0, Nat.le_refl _, rfl, by unfold Hid; rw [List.drop_of_length_le (by rw [limbs_length, EL.out]; exact Nat.le_refl _), List.drop_of_length_le (by rw [limbs_length, EL'.out]; exact Nat.le_refl _)], rfl⟩
    case round =>
      obtain ⟨m, hg, rfl, hv, rfl⟩ := hrel
      by_cases hz : gk = 0
      · subst hz
        have ES : Hid (sgn a b = 0) := by
          have : limbs a = limbs b := by simpa using hv.out
          unfold Hid
          rw [limbs_inj this, sgn_eq]
        have ek : ((0 : Nat) : Int) - 1 = -1 := by omega
        rw [ek]
        clear ek
        go_wp2_with fail
        go_ret
        exact ⟨by rw [ES.out]; rfl, _, rfl⟩
      · obtain ⟨k, rfl⟩ : ∃ k, gk = k + 1 := ⟨gk - 1, by omega⟩
        have ek : ((k + 1 : Nat) : Int) - 1 = (k : Int) := by omega
        rw [ek]
        obtain ⟨ad, rfl⟩ := HA.out.some_ (by omega)
        obtain ⟨ad', rfl⟩ := HB.out.some_ (by omega)
        have ka : k < (limbs a).length := by rw [limbs_length, EL.out]; omega
        have kb : k < (limbs b).length := by rw [limbs_length, EL'.out]; omega
        have c1 := HA.out.cell k ka
        have c2 := HB.out.cell k kb
        by_cases hx : (limbs a)[k] = (limbs b)[k]
        · have HV : Hid ((limbs a).drop k = (limbs b).drop k) := drop_step ka kb hx hv.out
          rw [← hx] at c2
          generalize (limbs a)[k] = x at *
          have h2 : ((x : Int) != x) = false := by simp
          clear hx ek
          go_wp2_with fail
          go_quiet (fail)
          go_wp2_with fail
          go_roundg k
          case measure => omega
          case rel => exact ⟨_, by omega, rfl, HV, rfl⟩
        · have ES := Lib.hid (sgn_top ka kb hv.out hx)
          generalize (limbs a)[k] = x at *
          generalize (limbs b)[k] = y at *
          have h2 : ((x : Int) != y) = true := by simp; omega
          by_cases xy : x < y
          · have xy' : (x : Int) < y := by omega
            rw [sgn_lt xy] at ES
            clear hx ek
            go_wp2_with fail
            go_quiet (fail)
            go_wp2_with fail
            go_quiet (fail)
            go_wp2_with fail
            go_ret
            exact ⟨by rw [← ES.out]; rfl, drew3 _ _ _ _⟩
          · have xy' : ¬ (x : Int) < y := by omega
            rw [sgn_gt (by omega)] at ES
            clear hx ek
            go_wp2_with fail
            go_quiet (fail)
            go_wp2_with fail
            go_quiet (fail)
            go_wp2_with fail
            go_ret
            exact ⟨by rw [← ES.out]; rfl, drew3 _ _ _ _⟩
  · have ES := Lib.hid (sgn_ln (a := a) (b := b) (by omega))
    rw [hl, hl'] at ES
    have h0 : ((n : Int) != n') = true := by simp; omega
    by_cases xy : n < n'
    · have xy' : (n : Int) < n' := by omega
      rw [sgn_lt xy] at ES
      clear ha hb hl hl' la lb
      go_enter Try.func25, Try.ntmps25
      go_wp2_with fail
      go_ret
      exact ⟨by rw [← ES.out]; rfl, 0, rfl⟩
    · have xy' : ¬ (n : Int) < n' := by omega
      rw [sgn_gt (by omega)] at ES
      clear ha hb hl hl' la lb
      go_enter Try.func25, Try.ntmps25
      go_wp2_with fail
      go_ret
      exact ⟨by rw [← ES.out]; rfl, 0, rfl⟩
end Go.Proofs.Ythhphbaimpcjfaa
