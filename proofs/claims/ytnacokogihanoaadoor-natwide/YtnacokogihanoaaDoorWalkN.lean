/- The walks of word, gcdWords, Gcd. -/
import Derived.Test.YtnacokogihanoaaDoorWalkM
namespace Go.Proofs.YtnacokogihanoaaDoor
open Go.RowKit
set_option linter.unusedVariables false
set_option linter.unusedSimpArgs false

theorem or_words (x y : Nat) (hx : x < 4294967296) (hy : y < 4294967296) : bits BinOp.or IntKind.u64 (x : Int) ((y : Int) * 4294967296) = ((x + 4294967296 * y : Nat) : Int) := by
  have e : (y : Int) * 4294967296 = ((y * 4294967296 : Nat) : Int) := by omega
  rw [e, u64_or_nat _ _ (by omega) (by omega), Nat.or_comm]
  have := or_apart y x 32 (by omega)
  rw [show (2 : Nat) ^ 32 = 4294967296 by decide] at this
  omega
theorem or_zero_left (x : Nat) (hx : x < 4294967296) : bits BinOp.or IntKind.u64 0 (x : Int) = (x : Int) := by
  have := u64_or_nat 0 x (by omega) (by omega)
  rw [Nat.zero_or] at this
  exact this
set_option maxHeartbeats 1000000 in
set_option maxRecDepth 100000 in
theorem word_any {A : Option Addr} {n c : Nat} {xs : List Nat} {w : World} (h : Lim w A n c xs) (hn : n ≤ 2) : Calls Tryd.prog 88 #[.slice A n c] w fun e w' => e = .returned (.int .u64 (val xs)) ∧ w = w' := by
  have hl := h.len
  rcases (by omega : n = 0 ∨ n = 1 ∨ n = 2) with rfl | rfl | rfl
  · have e := List.eq_nil_of_length_eq_zero hl
    subst e
    clear h hl hn
    go_enter Tryd.func88, Tryd.ntmps88
    go_wp2_with fail
    go_rounds 1
    go_ret
    exact ⟨rfl, rfl⟩
  · obtain ⟨ad, rfl⟩ := h.some_ (by omega)
    match xs, hl with
    | [x], _ =>
      have c0 := h.cell 0 (by simp)
      have hx := h.lo.head
      simp only [List.getElem_cons_zero] at c0
      have a0 : ad.add 0 = ad := by unfold Addr.add; rfl
      rw [a0] at c0
      have E1 := Lib.hid (or_zero_left x hx)
      have E2 : Hid (val [x] = x) := by unfold Hid; rw [val_cons, val_nil, Nat.mul_zero, Nat.add_zero]
      clear h hl hn a0
      go_enter Tryd.func88, Tryd.ntmps88
      go_wp2_with fail
      go_rounds 2
      rw [E1.out]
      go_ret
      exact ⟨by rw [E2.out]; rfl, rfl⟩
  · obtain ⟨ad, rfl⟩ := h.some_ (by omega)
    match xs, hl with
    | [x, y], _ =>
      have c0 := h.cell 0 (by simp)
      have c1 := h.cell 1 (by simp)
      have hx := h.lo.head
      have hy := h.lo.tail.head
      simp only [List.getElem_cons_zero, List.getElem_cons_succ] at c0 c1
      have a0 : ad.add 0 = ad := by unfold Addr.add; rfl
      rw [a0] at c0
      have E1 := Lib.hid (or_zero_left x hx)
      have E3 := Lib.hid (or_words x y hx hy)
      have E2 : Hid (val [x, y] = x + 4294967296 * y) := by unfold Hid; rw [val_cons, val_cons, val_nil, Nat.mul_zero, Nat.add_zero, B_eq]
      have c2 : w.cell? ⟨ad.block, ad.off + 1, none⟩ = some (lv y) := c1
      clear h hl hn a0 c1
      go_enter Tryd.func88, Tryd.ntmps88
      go_wp2_with fail
      go_rounds 3
      rw [E1.out, E3.out]
      go_ret
      exact ⟨by rw [E2.out]; rfl, rfl⟩

set_option maxHeartbeats 1000000 in
set_option maxRecDepth 100000 in
theorem gcdWords_any (a b : Nat) (ha : a < 18446744073709551616) (hb : b < 18446744073709551616) (w : World) : Calls Tryd.prog 87 #[.int .u64 a, .int .u64 b] w fun e w' => e = .returned (.int .u64 (Nat.gcd a b)) ∧ ∃ m, w' = w.drewN m := by
  go_enter Tryd.func87, Tryd.ntmps87
  go_wp2_with fail
  go_loopg [0, 1] b (fun y s0 s1 wr => ∃ (x m : Nat), x < 18446744073709551616 ∧ y < 18446744073709551616 ∧ s0 = .int .u64 (x : Int) ∧ s1 = .int .u64 (y : Int) ∧ Hid (Nat.gcd x y = Nat.gcd a b) ∧ wr = w.drewN m)
  case atStart => exact ⟨a, 0, ha, hb, rfl, rfl, rfl, rfl⟩
  case round =>
    obtain ⟨x, m, hx, hy, rfl, rfl, hg, rfl⟩ := hrel
    by_cases hz : gk = 0
    · subst hz
      have E : Hid (Nat.gcd a b = x) := by unfold Hid; rw [← hg.out, Nat.gcd_zero_right]
      clear hg
      go_wp2_with fail
      go_ret
      exact ⟨by rw [E.out]; rfl, _, rfl⟩
    · have h1 : ((gk : Int) != 0) = true := by simp; omega
      have h2 : ((gk : Int) == 0) = false := by simpa using hz
      have lt : x % gk < gk := Nat.mod_lt _ (by omega)
      have G : Hid (Nat.gcd gk (x % gk) = Nat.gcd a b) := by
        unfold Hid
        rw [← hg.out, Nat.gcd_comm gk, ← Nat.gcd_rec gk x, Nat.gcd_comm]
      have E : Hid ((x : Int) % (gk : Int) = ((x % gk : Nat) : Int)) := (Int.natCast_emod x gk).symm
      generalize x % gk = r at *
      clear hg
      go_wp2_with fail
      go_quiet (fail)
      go_wp2_with fail
      go_roundg r
      case measure => exact lt
      case rel =>
        go_light
        rw [E.out]
        exact ⟨gk, m + nq, hy, by omega, rfl, rfl, G, World.drewN_drewN _ _ _⟩

/-- Two naturals that lie there. -/
structure Both (w : World) (x y : Nat) (s0 s1 : Value) (wr : World) : Prop where
  ex : ∃ A n c A' n' c', s0 = .slice A n c ∧ s1 = .slice A' n' c' ∧ Lim wr A n c (limbs x) ∧ Lim wr A' n' c' (limbs y)
  lx : ln x ≤ 64
  ly : ln y ≤ 64
  bl : Below w.heap.size w wr
theorem lt_word {n : Nat} (h : ln n ≤ 2) : n < 18446744073709551616 := by
  have := Nat.lt_of_lt_of_le (lt_ln n) (Nat.pow_le_pow_right B_pos h)
  rwa [B_eq, show (4294967296 : Nat) ^ 2 = 18446744073709551616 by decide] at this
theorem ln_word {n : Nat} (h : n < 18446744073709551616) : ln n ≤ 2 := ln_le (by rw [B_eq, show (4294967296 : Nat) ^ 2 = 18446744073709551616 by decide]; exact h)
set_option maxHeartbeats 2000000 in
set_option maxRecDepth 100000 in
theorem gcd_any {A A' : Option Addr} {n c n' c' a b : Nat} {w : World} (ha : Lim w A n c (limbs a)) (hb : Lim w A' n' c' (limbs b)) (la : ln a ≤ 64) (lb : ln b ≤ 64) :
    Calls Tryd.prog 53 #[.slice A n c, .slice A' n' c'] w fun e w' => RetE (Nat.gcd a b) 0 w e w' := by
  have RA := Lib.hid (right_yes ha la); have RB := Lib.hid (right_yes hb lb)
  have S0 : Both w a b (.slice A n c) (.slice A' n' c') w := ⟨⟨_, _, _, _, _, _, rfl, rfl, ha, hb⟩, la, lb, Below.refl _ _⟩
  clear ha hb la lb
  go_enter Tryd.func53, Tryd.ntmps53
  go_wp2_with fail
  refine RA.out.mono ?_
  rintro e w' ⟨rfl, rfl⟩
  go_wp2_with fail
  refine RB.out.mono ?_
  rintro e w' ⟨rfl, rfl⟩
  go_wp2_with fail
  go_loopg [0, 1] b (fun y s0 s1 wr => ∃ x, Hid (Nat.gcd x y = Nat.gcd a b) ∧ Both w x y s0 s1 wr)
  case atStart => exact ⟨a, rfl, S0⟩
  case round =>
    clear S0 RA RB
    obtain ⟨x, hg, S⟩ := hrel
    obtain ⟨A, n, c, A', n', c', rfl, rfl, L0, L1⟩ := S.ex
    have lx := S.lx; have ly := S.ly; have BL := S.bl
    have hl := L0.len; have hl' := L1.len
    rw [limbs_length] at hl hl'
    have n1 : n ≤ 64 := by omega
    have n2 : n' ≤ 64 := by omega
    by_cases h2 : 2 < n'
    · have i2 : (2 : Int) < n' := by omega
      have y0 : gk ≠ 0 := by intro e; subst e; rw [ln_zero] at hl'; omega
      have lt : x % gk < gk := Nat.mod_lt _ (Nat.pos_of_ne_zero y0)
      have G : Hid (Nat.gcd gk (x % gk) = Nat.gcd a b) := by
        unfold Hid
        rw [← hg.out, Nat.gcd_comm gk, ← Nat.gcd_rec gk x, Nat.gcd_comm]
      have KD := Lib.hid (divide_any L0 L1 lx y0)
      have lr : ln (x % gk) ≤ 64 := Nat.le_trans (ln_mono (Nat.le_of_lt lt)) ly
      have L1h := Lib.hid L1
      generalize x % gk = r at *
      clear L0 L1 hg S hl hl'
      go_wp2_with fail
      refine KD.out.mono ?_
      rintro e w1 ⟨A2, n3, c2, A3, n4, c3, rfl, L2, L3, B1⟩
      have L3h := Lib.hid L3
      clear L2 L3
      go_wp2_with fail
      go_roundg r
      case measure => exact lt
      case rel =>
        go_light
        exact ⟨gk, G, ⟨_, _, _, _, _, _, rfl, rfl, L1h.out.next B1, L3h.out⟩, ly, lr, below_step BL B1⟩
    · have i2 : ¬ (2 : Int) < n' := by omega
      by_cases hz : n' = 0
      · subst hz
        have y0 := ln_eq_zero hl'
        subst y0
        have E : Hid (Nat.gcd a b = x) := by unfold Hid; rw [← hg.out, Nat.gcd_zero_right]
        have KC := Lib.hid (clone_any L0 (by omega))
        clear L0 L1 hg S hl hl'
        go_wp2_with fail
        refine KC.out.mono ?_
        rintro e w1 ⟨A2, n2, c2, rfl, L2, B1⟩
        have KT := Lib.hid (trim_any L2)
        rw [val_limbs] at KT
        clear L2
        go_wp2_with fail
        refine KT.out.mono ?_
        rintro e w2 ⟨A3, n3, c3, rfl, L3, rfl⟩
        go_wp2_with fail
        go_ret2
        exact ⟨_, _, _, rfl, by rw [E.out]; exact L3, below_step BL B1⟩
      · have h0 : ((n' : Int) == 0) = false := by simpa using hz
        have y0 : gk ≠ 0 := by intro e; subst e; rw [ln_zero] at hl'; omega
        have lt : x % gk < gk := Nat.mod_lt _ (Nat.pos_of_ne_zero y0)
        have G : Hid (Nat.gcd gk (x % gk) = Nat.gcd a b) := by
          unfold Hid
          rw [← hg.out, Nat.gcd_comm gk, ← Nat.gcd_rec gk x, Nat.gcd_comm]
        have KD := Lib.hid (divide_any L0 L1 lx y0)
        have lr : ln (x % gk) ≤ 2 := Nat.le_trans (ln_mono (Nat.le_of_lt lt)) (by omega)
        have wy := lt_word (show ln gk ≤ 2 by omega)
        have wr2 := lt_word lr
        have L1h := Lib.hid L1
        have gl : Nat.gcd a b < 18446744073709551616 := by
          rw [← G.out]
          exact Nat.lt_of_le_of_lt (Nat.gcd_le_left _ (Nat.pos_of_ne_zero y0)) wy
        generalize x % gk = r at *
        clear L0 L1 hg S hl hl'
        go_wp2_with fail
        refine KD.out.mono ?_
        rintro e w1 ⟨A2, n3, c2, A3, n4, c3, rfl, L2, L3, B1⟩
        have K1 := Lib.hid (word_any (L1h.out.next B1) (by omega))
        have hl4 := L3.len
        rw [limbs_length] at hl4
        have K2 := Lib.hid (word_any L3 (by omega))
        rw [val_limbs] at K1 K2
        clear L2 L3 hl4
        go_wp2_with fail
        refine K1.out.mono ?_
        rintro e w2 ⟨rfl, rfl⟩
        go_wp2_with fail
        refine K2.out.mono ?_
        rintro e w2 ⟨rfl, rfl⟩
        go_wp2_with fail
        refine (gcdWords_any gk r wy wr2 _).mono ?_
        rintro e w2 ⟨rfl, m, rfl⟩
        rw [G.out]
        go_wp2_with fail
        refine (of_any (Nat.gcd a b) gl _).mono ?_
        rintro e w3 ⟨A5, n5, c5, rfl, L5, B5⟩
        go_wp2_with fail
        go_ret2
        exact ⟨_, _, _, rfl, L5, below_step (below_drewN (below_step BL B1) m) B5⟩
set_option maxRecDepth 100000 in
theorem gcd_none {A A' : Option Addr} {n c n' c' : Nat} {xs ys : List Nat} {w : World} (ha : Lim w A n c xs) (hb : Lim w A' n' c' ys) (h : NoTwo xs ys) :
    Calls Tryd.prog 53 #[.slice A n c, .slice A' n' c'] w fun e w' => e = .returned (.tuple #[.slice none 0 0, .int .i64 1]) ∧ w = w' := by
  rcases rights_no ha hb h with ⟨_, RA, RB⟩ | RA
  · have RA := Lib.hid RA; have RB := Lib.hid RB
    clear ha hb h
    go_enter Tryd.func53, Tryd.ntmps53
    go_wp2_with fail
    refine (RA.out _ rfl).mono ?_
    rintro e w' ⟨rfl, rfl⟩
    go_wp2_with fail
    refine (RB.out _ rfl).mono ?_
    rintro e w' ⟨rfl, rfl⟩
    go_wp2_with fail
    go_ret2
    exact ⟨rfl, rfl⟩
  · have RA := Lib.hid RA
    clear ha hb h
    go_enter Tryd.func53, Tryd.ntmps53
    go_wp2_with fail
    refine (RA.out _ rfl).mono ?_
    rintro e w' ⟨rfl, rfl⟩
    go_wp2_with fail
    go_ret2
    exact ⟨rfl, rfl⟩
end Go.Proofs.YtnacokogihanoaaDoor
