/- The walks of Compare, Cmp, Bits, fitting. -/
import Derived.Test.YthhphbaimpcjfaaWalkA
import Derived.Test.YthhphbaimpcjfaaShelf
namespace Go.Proofs.Ythhphbaimpcjfaa
open Go.RowKit

theorem drew3 (w : World) (a b c : Nat) : ∃ k, ((w.drewN a).drewN b).drewN c = w.drewN k := ⟨_, by rw [World.drewN_drewN, World.drewN_drewN]⟩
theorem isNaN_int (x : Int) (w : World) : Calls Try.prog 43 #[.int .i64 x] w fun e w' => e = .returned (.bool false) ∧ w = w' := by
  have h : (x != x) = false := by simp
  go_enter Try.func43, Try.ntmps43
  go_wp2
  go_ret
  exact ⟨rfl, rfl⟩
theorem isNaN_u32 (x : Int) (w : World) : Calls Try.prog 44 #[.int .u32 x] w fun e w' => e = .returned (.bool false) ∧ w = w' := by
  have h : (x != x) = false := by simp
  go_enter Try.func44, Try.ntmps44
  go_wp2
  go_ret
  exact ⟨rfl, rfl⟩
set_option maxRecDepth 100000 in
theorem compare_int (x y : Nat) (w : World) : Calls Try.prog 38 #[.int .i64 x, .int .i64 y] w fun e w' => e = .returned (.int .i64 (sgn x y)) ∧ w = w' := by
  have H : x < y ∧ Hid (sgn x y = -1) ∧ (x : Int) < y ∨ ¬ x < y ∧ y < x ∧ Hid (sgn x y = 1) ∧ (y : Int) < x ∧ ¬ (x : Int) < y ∨ x = y := by
    rcases Nat.lt_trichotomy x y with h | h | h
    · exact Or.inl ⟨h, sgn_lt h, by omega⟩
    · exact Or.inr (Or.inr h)
    · exact Or.inr (Or.inl ⟨by omega, h, sgn_gt h, by omega, by omega⟩)
  rcases H with ⟨h, e, h1⟩ | ⟨h, h', e, h1, h2⟩ | rfl
  · go_enter Try.func38, Try.ntmps38
    go_wp2_with (go_at_call 43; refine (isNaN_int _ _).mono ?_; rintro e w' ⟨rfl, rfl⟩)
    go_ret
    exact ⟨by rw [e.out]; rfl, rfl⟩
  · go_enter Try.func38, Try.ntmps38
    go_wp2_with (go_at_call 43; refine (isNaN_int _ _).mono ?_; rintro e w' ⟨rfl, rfl⟩)
    go_ret
    exact ⟨by rw [e.out]; rfl, rfl⟩
  · have e := Lib.hid (sgn_eq x)
    have h1 : ¬ (x : Int) < x := by omega
    go_enter Try.func38, Try.ntmps38
    go_wp2_with (go_at_call 43; refine (isNaN_int _ _).mono ?_; rintro e w' ⟨rfl, rfl⟩)
    go_ret
    exact ⟨by rw [e.out]; rfl, rfl⟩
set_option maxRecDepth 100000 in
theorem compare_u32 (x y : Nat) (w : World) : Calls Try.prog 39 #[.int .u32 x, .int .u32 y] w fun e w' => e = .returned (.int .i64 (sgn x y)) ∧ w = w' := by
  have H : x < y ∧ Hid (sgn x y = -1) ∧ (x : Int) < y ∨ ¬ x < y ∧ y < x ∧ Hid (sgn x y = 1) ∧ (y : Int) < x ∧ ¬ (x : Int) < y ∨ x = y := by
    rcases Nat.lt_trichotomy x y with h | h | h
    · exact Or.inl ⟨h, sgn_lt h, by omega⟩
    · exact Or.inr (Or.inr h)
    · exact Or.inr (Or.inl ⟨by omega, h, sgn_gt h, by omega, by omega⟩)
  rcases H with ⟨h, e, h1⟩ | ⟨h, h', e, h1, h2⟩ | rfl
  · go_enter Try.func39, Try.ntmps39
    go_wp2_with (go_at_call 44; refine (isNaN_u32 _ _).mono ?_; rintro e w' ⟨rfl, rfl⟩)
    go_ret
    exact ⟨by rw [e.out]; rfl, rfl⟩
  · go_enter Try.func39, Try.ntmps39
    go_wp2_with (go_at_call 44; refine (isNaN_u32 _ _).mono ?_; rintro e w' ⟨rfl, rfl⟩)
    go_ret
    exact ⟨by rw [e.out]; rfl, rfl⟩
  · have e := Lib.hid (sgn_eq x)
    have h1 : ¬ (x : Int) < x := by omega
    go_enter Try.func39, Try.ntmps39
    go_wp2_with (go_at_call 44; refine (isNaN_u32 _ _).mono ?_; rintro e w' ⟨rfl, rfl⟩)
    go_ret
    exact ⟨by rw [e.out]; rfl, rfl⟩

set_option maxHeartbeats 1000000 in
set_option maxRecDepth 100000 in
theorem cmp_any {A A' : Option Addr} {n c n' c' a b : Nat} {w : World} (ha : Lim w A n c (limbs a)) (hb : Lim w A' n' c' (limbs b)) (la : ln a ≤ 64) (lb : ln b ≤ 64) :
    Calls Try.prog 31 #[.slice A n c, .slice A' n' c'] w fun e w' => e = .returned (.int .i64 (sgn a b)) ∧ ∃ m, w' = w.drewN m := by
  have HA := Lib.hid ha; have HB := Lib.hid hb
  have hl := ha.len; have hl' := hb.len
  rw [limbs_length] at hl hl'
  have RA := Lib.hid (right_yes ha la); have RB := Lib.hid (right_yes hb lb)
  by_cases hn : n = n'
  · subst hn
    have EL : Hid (ln a = n) := hl; have EL' : Hid (ln b = n) := hl'
    have n64 : n ≤ 64 := by omega
    have h0 : ((n : Int) != n) = false := by simp
    clear ha hb hl hl' la lb
    go_enter Try.func31, Try.ntmps31
    go_wp2_with fail
    refine (RA.out).mono ?_
    rintro e w' ⟨rfl, rfl⟩
    go_wp2_with fail
    refine (RB.out).mono ?_
    rintro e w' ⟨rfl, rfl⟩
    go_wp2_with fail
    go_loopg [5] n (fun g s5 wr => ∃ m, g ≤ n ∧ s5 = .int .i64 ((g : Int) - 1) ∧ Hid ((limbs a).drop g = (limbs b).drop g) ∧ wr = w.drewN m)
    case atStart => exact ⟨0, Nat.le_refl _, rfl, by unfold Hid; rw [List.drop_of_length_le (by rw [limbs_length, EL.out]; exact Nat.le_refl _), List.drop_of_length_le (by rw [limbs_length, EL'.out]; exact Nat.le_refl _)], rfl⟩
    case round =>
      obtain ⟨m, hg, rfl, hv, rfl⟩ := hrel
      by_cases hz : gk = 0
      · subst hz
        have ES : Hid (sgn a b = 0) := by
          have : limbs a = limbs b := by simpa using hv.out
          unfold Hid
          rw [limbs_inj this, sgn_eq]
        have ek : ((0 : Nat) : Int) - 1 = -1 := by omega
        rw [ek]
        clear ek
        go_wp2_with fail
        go_ret
        exact ⟨by rw [ES.out]; rfl, _, rfl⟩
      · obtain ⟨k, rfl⟩ : ∃ k, gk = k + 1 := ⟨gk - 1, by omega⟩
        have ek : ((k + 1 : Nat) : Int) - 1 = (k : Int) := by omega
        rw [ek]
        obtain ⟨ad, rfl⟩ := HA.out.some_ (by omega)
        obtain ⟨ad', rfl⟩ := HB.out.some_ (by omega)
        have ka : k < (limbs a).length := by rw [limbs_length, EL.out]; omega
        have kb : k < (limbs b).length := by rw [limbs_length, EL'.out]; omega
        have c1 := HA.out.cell k ka
        have c2 := HB.out.cell k kb
        by_cases hx : (limbs a)[k] = (limbs b)[k]
        · have HV : Hid ((limbs a).drop k = (limbs b).drop k) := drop_step ka kb hx hv.out
          rw [← hx] at c2
          generalize (limbs a)[k] = x at *
          have h2 : ((x : Int) != x) = false := by simp
          clear hx ek
          go_wp2_with fail
          go_quiet (fail)
          go_wp2_with fail
          go_roundg k
          case measure => omega
          case rel => exact ⟨_, by omega, rfl, HV, rfl⟩
        · have ES := Lib.hid (sgn_top ka kb hv.out hx)
          generalize (limbs a)[k] = x at *
          generalize (limbs b)[k] = y at *
          have h2 : ((x : Int) != y) = true := by simp; omega
          clear hx ek
          go_wp2_with fail
          go_quiet (fail)
          go_wp2_with fail
          go_quiet ((go_at_call 39; exact (compare_u32 _ _ _).mono (fun _ _ ⟨he, hw⟩ => ⟨he, _, hw.symm⟩)))
          go_wp2_with fail
          go_ret
          exact ⟨by rw [ES.out]; rfl, drew3 _ _ _ _⟩
  · have ES := Lib.hid (sgn_ln (a := a) (b := b) (by omega))
    rw [hl, hl'] at ES
    have h0 : ((n : Int) != n') = true := by simp; omega
    clear ha hb hl hl' la lb
    go_enter Try.func31, Try.ntmps31
    go_wp2_with fail
    refine (RA.out).mono ?_
    rintro e w' ⟨rfl, rfl⟩
    go_wp2_with fail
    refine (RB.out).mono ?_
    rintro e w' ⟨rfl, rfl⟩
    go_wp2_with fail
    refine (compare_int _ _ _).mono ?_
    rintro e w' ⟨rfl, rfl⟩
    go_wp2_with fail
    go_ret
    exact ⟨by rw [ES.out]; rfl, 0, rfl⟩

set_option maxRecDepth 100000 in
theorem cmp_none {A A' : Option Addr} {n c n' c' : Nat} {xs ys : List Nat} {w : World} (ha : Lim w A n c xs) (hb : Lim w A' n' c' ys) (h : ¬ (Nt xs ∧ Nt ys)) :
    Calls Try.prog 31 #[.slice A n c, .slice A' n' c'] w fun e w' => e = .returned (.int .i64 0) ∧ w = w' := by
  by_cases ka : Nt xs
  · have RA := Lib.hid (right_yes (ka.eq ha.lo ▸ ha) (by unfold ln; rw [← ka.eq ha.lo]; exact ka.1))
    have RB := Lib.hid (right_no hb (fun x => h ⟨ka, x⟩))
    clear ha hb h ka
    go_enter Try.func31, Try.ntmps31
    go_wp2_with fail
    refine (RA.out).mono ?_
    rintro e w' ⟨rfl, rfl⟩
    go_wp2_with fail
    refine (RB.out).mono ?_
    rintro e w' ⟨rfl, rfl⟩
    go_wp2_with fail
    go_ret
    exact ⟨rfl, rfl⟩
  · have RA := Lib.hid (right_no ha ka)
    clear ha hb h ka
    go_enter Try.func31, Try.ntmps31
    go_wp2_with fail
    refine (RA.out).mono ?_
    rintro e w' ⟨rfl, rfl⟩
    go_wp2_with fail
    go_ret
    exact ⟨rfl, rfl⟩
end Go.Proofs.Ythhphbaimpcjfaa
