/- The document's answers for fractions: Small, Right, Reduce, big; told. -/
import Derived.Test.YtnacokogihanoaaDoorRF
import Derived.Test.YtnacokogihanoaaDoorRefText
import Derived.Test.YtnacokogihanoaaDoorWalkZ
namespace Go.Proofs.YtnacokogihanoaaDoor
open Go.RowKit
set_option linter.unusedVariables false
set_option linter.unusedSimpArgs false

theorem addr_zero (ad : Addr) : ad.add 0 = ad := by unfold Addr.add; rw [if_pos rfl]
set_option maxHeartbeats 4000000 in
set_option maxRecDepth 100000 in
theorem small3_yes (A A' : Option Addr) (n c n' c' : Nat) (w : World) (h : n ≤ 70) (h' : n' ≤ 70) : Calls Tryd.prog 33 #[.agg #[.slice A n c, .slice A' n' c']] w fun e w' => e = .returned (.bool true) ∧ Below w.heap.size w w' := by
  have i1 : (n : Int) ≤ 70 := by omega
  have i2 : (n' : Int) ≤ 70 := by omega
  go_enter Tryd.func33, Tryd.ntmps33
  go_wp2_with fail
  go_ret
  exact ⟨rfl, (Below.refl _ _).alloc (Nat.le_refl _) _⟩
set_option maxHeartbeats 4000000 in
set_option maxRecDepth 100000 in
theorem small3_no (A A' : Option Addr) (n c n' c' : Nat) (w : World) (h : ¬ (n ≤ 70 ∧ n' ≤ 70)) : Calls Tryd.prog 33 #[.agg #[.slice A n c, .slice A' n' c']] w fun e w' => e = .returned (.bool false) ∧ Below w.heap.size w w' := by
  by_cases k : n ≤ 70
  · have i1 : (n : Int) ≤ 70 := by omega
    have i2 : ¬ (n' : Int) ≤ 70 := by omega
    go_enter Tryd.func33, Tryd.ntmps33
    go_wp2_with fail
    go_ret
    exact ⟨rfl, (Below.refl _ _).alloc (Nat.le_refl _) _⟩
  · have i1 : ¬ (n : Int) ≤ 70 := by omega
    go_enter Tryd.func33, Tryd.ntmps33
    go_wp2_with fail
    go_ret
    exact ⟨rfl, (Below.refl _ _).alloc (Nat.le_refl _) _⟩
set_option maxHeartbeats 4000000 in
set_option maxRecDepth 100000 in
theorem big_no (A A' D : Option Addr) (n c n' c' m k : Nat) (w : World) (h : n ≤ 64) (h' : n' ≤ 64) (h'' : m ≤ 64) : Calls Tryd.prog 81 #[.slice A n c, .slice A' n' c', .slice D m k] w fun e w' => e = .returned (.bool false) ∧ w = w' := by
  have i1 : ¬ (64 : Int) < n := by omega
  have i2 : ¬ (64 : Int) < n' := by omega
  have i3 : ¬ (64 : Int) < m := by omega
  go_enter Tryd.func81, Tryd.ntmps81
  go_wp2_with fail
  go_ret
  exact ⟨rfl, rfl⟩
set_option maxHeartbeats 4000000 in
set_option maxRecDepth 100000 in
theorem big_yes (A A' D : Option Addr) (n c n' c' m k : Nat) (w : World) (h : ¬ (n ≤ 64 ∧ n' ≤ 64 ∧ m ≤ 64)) : Calls Tryd.prog 81 #[.slice A n c, .slice A' n' c', .slice D m k] w fun e w' => e = .returned (.bool true) ∧ w = w' := by
  by_cases k1 : n ≤ 64
  · have i1 : ¬ (64 : Int) < n := by omega
    by_cases k2 : n' ≤ 64
    · have i2 : ¬ (64 : Int) < n' := by omega
      have i3 : (64 : Int) < m := by omega
      go_enter Tryd.func81, Tryd.ntmps81
      go_wp2_with fail
      go_ret
      exact ⟨rfl, rfl⟩
    · have i2 : (64 : Int) < n' := by omega
      go_enter Tryd.func81, Tryd.ntmps81
      go_wp2_with fail
      go_ret
      exact ⟨rfl, rfl⟩
  · have i1 : (64 : Int) < n := by omega
    go_enter Tryd.func81, Tryd.ntmps81
    go_wp2_with fail
    go_ret
    exact ⟨rfl, rfl⟩
set_option maxHeartbeats 4000000 in
set_option maxRecDepth 100000 in
theorem right3_no1 {A A' : Option Addr} {n c n' c' a b : Nat} {xs ys : List Nat} {w : World} (ha : Lim w A n c xs) (hb : Lim w A' n' c' ys) (k : ¬ Nt xs) : Calls Tryd.prog 35 #[.agg #[.slice A n c, .slice A' n' c']] w fun e w' => e = .returned (.bool false) ∧ Below w.heap.size w w' := by
  have S := (((Fs.start w).put ha).put hb).box (.slice A n c) (.slice A' n' c')
  go_enter Tryd.func35, Tryd.ntmps35
  go_wp2_with fail
  generalize w.alloc (.cells #[.slice A n c, .slice A' n' c'] 50) = w0 at *
  refine (refRight_no S.lie.2.1 k).mono ?_
  rintro e w' ⟨rfl, rfl⟩
  go_wp2_with fail
  go_ret
  exact ⟨rfl, S.bl⟩
set_option maxHeartbeats 4000000 in
set_option maxRecDepth 100000 in
theorem right3_no2 {A A' : Option Addr} {n c n' c' a b : Nat} {xs ys : List Nat} {w : World} (ha : Lim w A n c (limbs a)) (hb : Lim w A' n' c' ys) (la : ln a ≤ 64) (k : ¬ Nt ys) : Calls Tryd.prog 35 #[.agg #[.slice A n c, .slice A' n' c']] w fun e w' => e = .returned (.bool false) ∧ Below w.heap.size w w' := by
  have S := (((Fs.start w).put ha).put hb).box (.slice A n c) (.slice A' n' c')
  go_enter Tryd.func35, Tryd.ntmps35
  go_wp2_with fail
  generalize w.alloc (.cells #[.slice A n c, .slice A' n' c'] 50) = w0 at *
  refine (refRight_yes S.lie.2.1 la).mono ?_
  rintro e w' ⟨rfl, rfl⟩
  obtain ⟨⟨c0, c1, -⟩, -⟩ := S.cel
  go_wp2_with fail
  refine (refRight_no S.lie.1 k).mono ?_
  rintro e w' ⟨rfl, rfl⟩
  go_wp2_with fail
  go_ret
  exact ⟨rfl, S.bl⟩
set_option maxHeartbeats 4000000 in
set_option maxRecDepth 100000 in
theorem right3_no3 {A A' : Option Addr} {n c n' c' a b : Nat} {xs ys : List Nat} {w : World} (ha : Lim w A n c (limbs a)) (hb : Lim w A' n' c' (limbs b)) (la : ln a ≤ 64) (lb : ln b ≤ 64) (z : n' = 0) : Calls Tryd.prog 35 #[.agg #[.slice A n c, .slice A' n' c']] w fun e w' => e = .returned (.bool false) ∧ Below w.heap.size w w' := by
  subst z
  have S := (((Fs.start w).put ha).put hb).box (.slice A n c) (.slice A' 0 c')
  go_enter Tryd.func35, Tryd.ntmps35
  go_wp2_with fail
  generalize w.alloc (.cells #[.slice A n c, .slice A' 0 c'] 50) = w0 at *
  refine (refRight_yes S.lie.2.1 la).mono ?_
  rintro e w' ⟨rfl, rfl⟩
  obtain ⟨⟨c0, c1, -⟩, -⟩ := S.cel
  go_wp2_with fail
  refine (refRight_yes S.lie.1 lb).mono ?_
  rintro e w' ⟨rfl, rfl⟩
  go_wp2_with fail
  go_ret
  exact ⟨rfl, S.bl⟩
set_option maxHeartbeats 4000000 in
set_option maxRecDepth 100000 in
theorem right3_no4 {A A' : Option Addr} {n c n' c' a b : Nat} {xs ys : List Nat} {w : World} (ha : Lim w A n c (limbs a)) (hb : Lim w A' n' c' (limbs b)) (la : ln a ≤ 64) (lb : ln b ≤ 64) (z : n' ≠ 0) {g : Nat} (hg : Nat.gcd a b = g) (g1 : g ≠ 1) : Calls Tryd.prog 35 #[.agg #[.slice A n c, .slice A' n' c']] w fun e w' => e = .returned (.bool false) ∧ Below w.heap.size w w' := by
  have i0 : ((n' : Int) == 0) = false := by simp; omega
  have S := (((Fs.start w).put ha).put hb).box (.slice A n c) (.slice A' n' c')
  go_enter Tryd.func35, Tryd.ntmps35
  go_wp2_with fail
  generalize w.alloc (.cells #[.slice A n c, .slice A' n' c'] 50) = w0 at *
  refine (refRight_yes S.lie.2.1 la).mono ?_
  rintro e w' ⟨rfl, rfl⟩
  obtain ⟨⟨c0, c1, -⟩, -⟩ := S.cel
  go_wp2_with fail
  refine (refRight_yes S.lie.1 lb).mono ?_
  rintro e w' ⟨rfl, rfl⟩
  go_wp2_with fail
  have K := refGcd_any S.lie.2.1 S.lie.1 la lb
  rw [hg] at K
  refine K.mono ?_
  clear K
  rintro e w1 ⟨A1, n1, c1', rfl, L1, B1⟩
  have S := (S.next B1).put L1
  have hl := L1.len
  rw [limbs_length] at hl
  clear L1 B1 c0 c1
  by_cases q : n1 = 1
  · subst q
    have gb : g < 4294967296 := by
      have := lt_ln g
      rw [hl, Nat.pow_one, B_eq] at this
      exact this
    have g0 : g ≠ 0 := by
      rintro rfl
      rw [ln_zero] at hl
      omega
    have LL := S.lie.1
    rw [limbs_one gb g0] at LL
    obtain ⟨ad, rfl⟩ := LL.some_ (by decide)
    have c2 := LL.cell 0 (by simp)
    simp only [List.getElem_cons_zero] at c2
    have c3 := c2
    rw [addr_zero] at c3
    have i1 : ((g : Int) == 1) = false := by simp; omega
    clear LL gb g0 hl
    go_wp2_with fail
    go_ret
    exact ⟨rfl, S.bl⟩
  · have i1 : ((n1 : Int) == 1) = false := by simp; omega
    go_wp2_with fail
    go_ret
    exact ⟨rfl, S.bl⟩
set_option maxHeartbeats 4000000 in
set_option maxRecDepth 100000 in
theorem right3_yes {A A' : Option Addr} {n c n' c' a b : Nat} {xs ys : List Nat} {w : World} (ha : Lim w A n c (limbs a)) (hb : Lim w A' n' c' (limbs b)) (la : ln a ≤ 64) (lb : ln b ≤ 64) (z : n' ≠ 0) (hg : Nat.gcd a b = 1) : Calls Tryd.prog 35 #[.agg #[.slice A n c, .slice A' n' c']] w fun e w' => e = .returned (.bool true) ∧ Below w.heap.size w w' := by
  have i0 : ((n' : Int) == 0) = false := by simp; omega
  have S := (((Fs.start w).put ha).put hb).box (.slice A n c) (.slice A' n' c')
  go_enter Tryd.func35, Tryd.ntmps35
  go_wp2_with fail
  generalize w.alloc (.cells #[.slice A n c, .slice A' n' c'] 50) = w0 at *
  refine (refRight_yes S.lie.2.1 la).mono ?_
  rintro e w' ⟨rfl, rfl⟩
  obtain ⟨⟨c0, c1, -⟩, -⟩ := S.cel
  go_wp2_with fail
  refine (refRight_yes S.lie.1 lb).mono ?_
  rintro e w' ⟨rfl, rfl⟩
  go_wp2_with fail
  have K := refGcd_any S.lie.2.1 S.lie.1 la lb
  rw [hg] at K
  refine K.mono ?_
  clear K
  rintro e w1 ⟨A1, n1, c1', rfl, L1, B1⟩
  have S := (S.next B1).put L1
  have hl := L1.len
  rw [limbs_length] at hl
  clear L1 B1 c0 c1
  have LL := S.lie.1
  rw [limbs_one (x := 1) (by decide) (by decide)] at LL
  have q := LL.len
  obtain rfl : n1 = 1 := q.symm
  obtain ⟨ad, rfl⟩ := LL.some_ (by decide)
  have c2 := LL.cell 0 (by simp)
  simp only [List.getElem_cons_zero] at c2
  have c3 := c2
  rw [addr_zero] at c3
  clear LL hl q
  go_wp2_with fail
  go_ret
  exact ⟨rfl, S.bl⟩
theorem right3_any {A A' : Option Addr} {n c n' c' : Nat} {xs ys : List Nat} {w : World} (ha : Lim w A n c xs) (hb : Lim w A' n' c' ys) : Calls Tryd.prog 35 #[.agg #[.slice A n c, .slice A' n' c']] w fun e w' => e = .returned (.bool (frB xs ys)) ∧ Below w.heap.size w w' := by
  by_cases k1 : Nt xs
  · have e1 := k1.eq ha.lo
    have l1 : ln (val xs) = n := by rw [← limbs_length, ← e1]; exact ha.len
    have m1 := k1.1
    have q1 := ha.len
    by_cases k2 : Nt ys
    · have e2 := k2.eq hb.lo
      have l2 : ln (val ys) = n' := by rw [← limbs_length, ← e2]; exact hb.len
      have m2 := k2.1
      have q2 := hb.len
      by_cases z : n' = 0
      · rw [frB_no fun f => f.2.2.1 (List.length_eq_zero_iff.1 (by omega))]
        exact right3_no3 (a := val xs) (b := val ys) (xs := []) (ys := []) (e1 ▸ ha) (e2 ▸ hb) (by omega) (by omega) z
      · by_cases g : Nat.gcd (val xs) (val ys) = 1
        · rw [frB_yes ⟨k1, k2, fun y => z (by rw [← q2, y]; rfl), g⟩]
          exact right3_yes (a := val xs) (b := val ys) (xs := []) (ys := []) (e1 ▸ ha) (e2 ▸ hb) (by omega) (by omega) z g
        · rw [frB_no fun f => g f.2.2.2]
          exact right3_no4 (a := val xs) (b := val ys) (xs := []) (ys := []) (e1 ▸ ha) (e2 ▸ hb) (by omega) (by omega) z rfl g
    · rw [frB_no fun f => k2 f.2.1]
      exact right3_no2 (a := val xs) (b := 0) (xs := []) (e1 ▸ ha) hb (by omega) k2
  · rw [frB_no fun f => k1 f.1]
    exact right3_no1 (a := 0) (b := 0) ha hb k1
set_option maxHeartbeats 4000000 in
set_option maxRecDepth 100000 in
theorem reduce3_any {A A' : Option Addr} {n c n' c' a b : Nat} {w : World} (ha : Lim w A n c (limbs a)) (hb : Lim w A' n' c' (limbs b)) (la : ln a ≤ 64) (lb : ln b ≤ 64) (b0 : b ≠ 0) : Calls Tryd.prog 49 #[.slice A n c, .slice A' n' c'] w fun e w' => RetR (a / Nat.gcd a b) (b / Nat.gcd a b) w e w' := by
  have lg := ln_gcd la lb
  obtain ⟨g, hg⟩ : ∃ g, Nat.gcd a b = g := ⟨_, rfl⟩
  have g0 : g ≠ 0 := by
    intro z
    rw [z] at hg
    exact b0 (Nat.eq_zero_of_gcd_eq_zero_right hg)
  rw [hg] at lg ⊢
  have HG := Lib.hid hg
  have S := (((Fs.start w).put ha).put hb).box (.slice none 0 0) (.slice none 0 0)
  clear ha hb hg b0
  go_enter Tryd.func49, Tryd.ntmps49
  go_wp2_with fail
  generalize w.alloc (.cells #[.slice none 0 0, .slice none 0 0] 50) = w0 at *
  have K := refGcd_any S.lie.2.1 S.lie.1 la lb
  rw [HG.out] at K
  refine K.mono ?_
  clear K
  rintro e w1 ⟨A1, n1, c1, rfl, L1, B1⟩
  have S := (S.next B1).put L1
  clear L1 B1
  go_wp2_with fail
  refine (refDiv_any S.lie.2.2.1 S.lie.1 la lg g0).mono ?_
  rintro e w2 ⟨A2, n2, c2, A3, n3, c3, rfl, L2, L3, B2⟩
  have S := (S.next B2).put L2
  clear L2 L3 B2
  go_wp2_with fail
  refine (refDiv_any S.lie.2.2.1 S.lie.2.1 lb lg g0).mono ?_
  rintro e w4 ⟨A4, n4, c4, A5, n5, c5, rfl, L4, L5, B4⟩
  have S := (S.next B4).put L4
  clear L4 L5 B4
  obtain ⟨⟨c0, c1, m0, m1, sz⟩, _⟩ := S.cel
  go_wp2_with fail
  go_light
  exact bodyPost_ret (v := .agg #[.slice A2 n2 c2, .slice A4 n4 c4]) (by simp [results, Tryd.results49, go_sem, c0, c1]) rfl ⟨_, _, _, _, _, _, rfl, S.lie.2.1.put2 c0 c1 _ _, S.lie.1.put2 c0 c1 _ _, (S.bl.setCell (Nat.le_refl _) _).setCell (Nat.le_refl _) _⟩
set_option maxHeartbeats 4000000 in
set_option maxRecDepth 100000 in
theorem told3_any {A A' D D' : Option Addr} {n c n' c' m k m' k' : Nat} {xs ys : List Nat} {t : Int} {w : World} (ha : Lim w A n c xs) (ha' : Lim w A' n' c' ys) (hb : Lim w D m k xs) (hb' : Lim w D' m' k' ys) : Calls Tryd.prog 42 #[.agg #[.slice A n c, .slice A' n' c'], .int .i64 t, .agg #[.slice D m k, .slice D' m' k'], .int .i64 t] w fun e w' => e = .returned (.bool true) ∧ Below w.heap.size w w' := by
  have S := (((((Fs.start w).put ha).put ha').put hb).put hb').box (.slice A n c) (.slice A' n' c') |>.box (.slice D m k) (.slice D' m' k')
  simp only [World.size_alloc] at S
  clear ha ha' hb hb'
  go_enter Tryd.func42, Tryd.ntmps42
  go_wp2_with fail
  generalize (w.alloc (.cells #[.slice A n c, .slice A' n' c'] 50)).alloc (.cells #[.slice D m k, .slice D' m' k'] 50) = w0 at *
  refine (same3_yes S.lie.2.2.2.1 S.lie.2.2.1 S.lie.2.1 S.lie.1).mono ?_
  rintro e w1 ⟨rfl, B1⟩
  have S := S.next B1
  clear B1
  go_wp2_with fail
  go_ret
  exact ⟨rfl, S.bl⟩
end Go.Proofs.YtnacokogihanoaaDoor
