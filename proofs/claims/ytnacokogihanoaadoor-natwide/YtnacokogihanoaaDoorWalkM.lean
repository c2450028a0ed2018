/- The walks of Clone, divide, Div. -/
import Derived.Test.YtnacokogihanoaaDoorWalkL
import Derived.Lib.SliceRun
namespace Go.Proofs.YtnacokogihanoaaDoor
open Go.RowKit
set_option linter.unusedVariables false
set_option linter.unusedSimpArgs false

/-- A row that the call owns is a slice of limbs. -/
theorem own_lim {w : World} {base n : Nat} {v : Value} {xs : List Nat} (h : w.ownsRow base 37 1 v n (xs.map lv)) (lo : Lo xs) : ∃ A c, v = .slice A n c ∧ Lim w A n c xs := by
  have hl : xs.length = n := by have := h.1; simpa using this
  rcases h.2 with ⟨rfl, rfl⟩ | ⟨g, cap, cur, rfl, _, hb, h1, h2, h3, h4⟩
  · have e := List.eq_nil_of_length_eq_zero hl
    subst e
    exact ⟨none, 0, rfl, Lim.none_ _ _ _ (by omega)⟩
  · refine ⟨_, cap, rfl, hl, h1, h2, fun j hj => ⟨_, rfl, ?_⟩, lo⟩
    rw [add_lit, Nat.zero_add]
    have e : cur[j]? = some (lv xs[j]) := by
      have : (cur.toList.take (n * 1))[j]? = some (lv xs[j]) := by rw [h4]; simp [hj]
      rw [List.getElem?_take, if_pos (by omega)] at this
      simpa using this
    simp [World.cell?, hb, e]

set_option maxHeartbeats 2000000 in
set_option maxRecDepth 100000 in
theorem clone_any {A : Option Addr} {n c : Nat} {xs : List Nat} {w : World} (h : Lim w A n c xs) (hn : n ≤ 1000) : Calls Tryd.prog 86 #[.slice A n c] w fun e w' => ∃ A' n' c', e = .returned (.slice A' n' c') ∧ Lim w' A' n' c' xs ∧ Below w.heap.size w w' := by
  have q22 : ∀ (w : World) (a : Option Addr) (n c n' c' : Nat), (binOp .eql 23 (.slice a n c) (.slice none n' c')).run Tryd.prog w = .ok (.bool a.isNone) w := fun w a n c n' c' => Lib.run_eql_slice_nil w _ _ a n c n' c' Tryd.underlying23
  cases A with
  | none =>
    have H := Lib.hid h
    have h0 : n = 0 := by
      rcases Nat.eq_zero_or_pos n with k | k
      · exact k
      · obtain ⟨ad, e⟩ := h.some_ k; cases e
    subst h0
    have e := List.eq_nil_of_length_eq_zero h.len
    subst e
    clear h
    go_enter Tryd.func86, Tryd.ntmps86
    go_wp2
    go_ret
    exact ⟨none, 0, 0, rfl, Lim.none_ _ _ _ (by omega), Below.refl _ _⟩
  | some ad =>
    obtain ⟨i0, hi, hz0, hz1, hz2⟩ := info_parts info_u32
    have H := Lib.hid h
    have hl := h.len
    have lo := Lib.hid h.lo
    clear h
    go_enter Tryd.func86, Tryd.ntmps86
    go_wp2_with (at_builtin; refine wpList_append_own _ rfl _ _ 23 rfl w.heap.size 37 i0 (.int .u32 0) 1 4 Tryd.underlying23 hi hz0 hz1 hz2 rfl (by decide) _ _ _ rfl (World.ownsRow_made w #[] 0 (Nat.le_refl _) (Nat.zero_le _) rfl) ad n c (xs.map lv) rfl ?qc1 ?qc2 ?qc3 ?qc4 ?qc5 ?qc6 ?_)
    case qc1 => simp; omega
    case qc2 =>
      intro j u hj
      have hj' : j < xs.length := by have := (List.getElem?_eq_some_iff.1 hj).1; simpa using this
      have := (H.out.alloc (.cells #[] 37)).cell j hj'
      rw [List.getElem?_map, List.getElem?_eq_getElem hj'] at hj
      simp only [Option.map_some, Option.some.injEq] at hj
      rw [← hj]
      exact this
    case qc3 => intro u hu; obtain ⟨x, _, rfl⟩ := List.mem_map.1 hu; rfl
    case qc4 => unfold maxLen; omega
    case qc5 => omega
    case qc6 => simp
    intro v' w1 hown hgrow hnil
    have BL : Below w.heap.size w w1 := ((Below.refl _ w).alloc (Nat.le_refl _) _).grown hgrow (by simp) (by intro k hk; simp [Value.ownBlock] at hk; omega)
    have hown2 : w1.ownsRow w.heap.size 37 1 v' n (xs.map lv) := by simpa using hown
    obtain ⟨A2, c2, rfl, L2⟩ := own_lim hown2 lo.out
    clear hown hgrow hnil hown2
    go_wp2
    go_ret
    exact ⟨_, _, _, rfl, L2, BL⟩

set_option maxHeartbeats 1000000 in
set_option maxRecDepth 100000 in
theorem divide_any {A A' : Option Addr} {n c n' c' a b : Nat} {w : World} (ha : Lim w A n c (limbs a)) (hb : Lim w A' n' c' (limbs b)) (la : ln a ≤ 64) (b0 : b ≠ 0) :
    Calls Tryd.prog 85 #[.slice A n c, .slice A' n' c'] w fun e w' => RetD (a / b) (a % b) w e w' := by
  have hl := ha.len; have hl' := hb.len
  rw [limbs_length] at hl hl'
  by_cases lt : n < n'
  · have il : (n : Int) < n' := by omega
    have ab : a < b := lt_of_ln_lt (by omega)
    rw [Nat.div_eq_of_lt ab, Nat.mod_eq_of_lt ab]
    have KC := Lib.hid (clone_any ha (by omega))
    clear ha hb la lt hl hl' ab
    go_enter Tryd.func85, Tryd.ntmps85
    go_wp2_with fail
    refine KC.out.mono ?_
    rintro e w1 ⟨A1, n1, c1, rfl, L1, B1⟩
    have KT := Lib.hid (trim_any L1)
    rw [val_limbs] at KT
    clear L1
    go_wp2_with fail
    refine KT.out.mono ?_
    rintro e w2 ⟨A2, n2, c2, rfl, L2, rfl⟩
    go_wp2_with fail
    go_ret2
    exact ⟨_, _, _, _, _, _, rfl, lim_zero _ _ _ (by omega), L2, B1⟩
  · have il : ¬ (n : Int) < n' := by omega
    by_cases h1 : n' = 1
    · subst h1
      have e1 : ((1 : Int) == 1) = true := by decide
      obtain ⟨ad, rfl⟩ := hb.some_ (by omega)
      have hlt : 0 < (limbs b).length := by rw [limbs_length]; omega
      have hc := hb.cell 0 hlt
      have hx := (lo_limbs b).at_ 0 hlt
      have eb : (limbs b)[0] = b := by
        have e := val_take_succ (limbs b) 0 hlt
        rw [List.take_of_length_le (by rw [limbs_length]; omega), val_limbs, List.take_zero, val_nil, Nat.pow_zero, Nat.one_mul, Nat.zero_add] at e
        exact e.symm
      rw [eb] at hc hx
      have ha0 : ad.add 0 = ad := by unfold Addr.add; rfl
      rw [ha0] at hc
      have KD := Lib.hid (divShort_any ha (b := b) (by omega) (Nat.pos_of_ne_zero b0) hx)
      rw [val_limbs] at KD
      have hr : a % b < b := Nat.mod_lt _ (Nat.pos_of_ne_zero b0)
      generalize a % b = r at *
      clear ha hb la lt hl hl' eb ha0
      go_enter Tryd.func85, Tryd.ntmps85
      go_wp2_with fail
      refine KD.out.mono ?_
      rintro e w1 ⟨A1, n1, c1, rfl, L1, B1⟩
      have L1 := Lib.hid L1
      go_wp2_with fail
      refine (of_any r (by omega) _).mono ?_
      rintro e w2 ⟨A2, n2, c2, rfl, L2, B2⟩
      go_wp2_with fail
      go_ret2
      exact ⟨_, _, _, _, _, _, rfl, L1.out.next B2, L2, below_step B1 B2⟩
    · have e1 : ((n' : Int) == 1) = false := by simp; omega
      have n0 : 0 < n' := by rw [← hl']; exact ln_pos b0
      have KD := Lib.hid (divLong_any ha hb la (by omega) (by omega))
      clear ha hb la lt hl hl'
      go_enter Tryd.func85, Tryd.ntmps85
      go_wp2_with fail
      refine KD.out.mono ?_
      rintro e w1 ⟨A1, n1, c1, A2, n2, c2, rfl, L1, L2, B1⟩
      have L1 := Lib.hid L1
      have L2 := Lib.hid L2
      go_wp2_with fail
      go_ret2
      exact ⟨_, _, _, _, _, _, rfl, L1.out, L2.out, B1⟩

/-- Two naturals, and an error. -/
def RetF (q r : Nat) (k : Int) (w : World) (e : Ending) (w' : World) : Prop := ∃ A n c A' n' c', e = .returned (.tuple #[.slice A n c, .slice A' n' c', .int .i64 k]) ∧ Lim w' A n c (limbs q) ∧ Lim w' A' n' c' (limbs r) ∧ Below w.heap.size w w'
set_option maxRecDepth 100000 in
theorem div_any {A A' : Option Addr} {n c n' c' a b : Nat} {w : World} (ha : Lim w A n c (limbs a)) (hb : Lim w A' n' c' (limbs b)) (la : ln a ≤ 64) (lb : ln b ≤ 64) (b0 : b ≠ 0) :
    Calls Tryd.prog 52 #[.slice A n c, .slice A' n' c'] w fun e w' => RetF (a / b) (a % b) 0 w e w' := by
  have RA := Lib.hid (right_yes ha la); have RB := Lib.hid (right_yes hb lb)
  have K := Lib.hid (divide_any ha hb la b0)
  have h0 : ((n' : Int) == 0) = false := by
    have := hb.len
    rw [limbs_length] at this
    have := ln_pos b0
    simp; omega
  clear ha hb la lb
  go_enter Tryd.func52, Tryd.ntmps52
  go_wp2_with fail
  refine RA.out.mono ?_
  rintro e w' ⟨rfl, rfl⟩
  go_wp2_with fail
  refine RB.out.mono ?_
  rintro e w' ⟨rfl, rfl⟩
  go_wp2_with fail
  refine K.out.mono ?_
  rintro e w1 ⟨A1, n1, c1, A2, n2, c2, rfl, L1, L2, B1⟩
  have L1 := Lib.hid L1
  have L2 := Lib.hid L2
  go_wp2_with fail
  go_ret3
  exact ⟨_, _, _, _, _, _, rfl, L1.out, L2.out, B1⟩
set_option maxRecDepth 100000 in
theorem div_zero {A A' : Option Addr} {n c c' a : Nat} {w : World} (ha : Lim w A n c (limbs a)) (hb : Lim w A' 0 c' []) (la : ln a ≤ 64) :
    Calls Tryd.prog 52 #[.slice A n c, .slice A' 0 c'] w fun e w' => e = .returned (.tuple #[.slice none 0 0, .slice none 0 0, .int .i64 7]) ∧ w = w' := by
  have RA := Lib.hid (right_yes ha la); have RB := Lib.hid (right_yes (a := 0) (by rw [limbs_zero]; exact hb) (by rw [ln_zero]; omega))
  clear ha hb la
  go_enter Tryd.func52, Tryd.ntmps52
  go_wp2_with fail
  refine RA.out.mono ?_
  rintro e w' ⟨rfl, rfl⟩
  go_wp2_with fail
  refine RB.out.mono ?_
  rintro e w' ⟨rfl, rfl⟩
  go_wp2_with fail
  go_ret3
  exact ⟨rfl, rfl⟩
set_option maxRecDepth 100000 in
theorem div_none {A A' : Option Addr} {n c n' c' : Nat} {xs ys : List Nat} {w : World} (ha : Lim w A n c xs) (hb : Lim w A' n' c' ys) (h : NoTwo xs ys) :
    Calls Tryd.prog 52 #[.slice A n c, .slice A' n' c'] w fun e w' => e = .returned (.tuple #[.slice none 0 0, .slice none 0 0, .int .i64 1]) ∧ w = w' := by
  rcases rights_no ha hb h with ⟨_, RA, RB⟩ | RA
  · have RA := Lib.hid RA; have RB := Lib.hid RB
    clear ha hb h
    go_enter Tryd.func52, Tryd.ntmps52
    go_wp2_with fail
    refine (RA.out _ rfl).mono ?_
    rintro e w' ⟨rfl, rfl⟩
    go_wp2_with fail
    refine (RB.out _ rfl).mono ?_
    rintro e w' ⟨rfl, rfl⟩
    go_wp2_with fail
    go_ret3
    exact ⟨rfl, rfl⟩
  · have RA := Lib.hid RA
    clear ha hb h
    go_enter Tryd.func52, Tryd.ntmps52
    go_wp2_with fail
    refine (RA.out _ rfl).mono ?_
    rintro e w' ⟨rfl, rfl⟩
    go_wp2_with fail
    go_ret3
    exact ⟨rfl, rfl⟩
end Go.Proofs.YtnacokogihanoaaDoor
