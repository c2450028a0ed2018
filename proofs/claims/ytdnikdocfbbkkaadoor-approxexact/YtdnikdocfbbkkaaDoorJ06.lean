/- Fractions in memory; the walks of rat: Right, reduced. -/
import Derived.Test.YtdnikdocfbbkkaaDoorJ05
namespace Go.Proofs.YtdnikdocfbbkkaaDoor
open Go.RowKit
set_option linter.unusedVariables false
set_option linter.unusedSimpArgs false

/-- Blocks of two cells that lie there, with what is in them. -/
def Cels : List (Nat × Value × Value) → World → Prop
  | [], _ => True
  | (b, u, v) :: r, w => (w.cell? ⟨b, 0, none⟩ = some u ∧ w.cell? ⟨b, 1, none⟩ = some v ∧ w.frozen? ⟨b, 0, none⟩ = false ∧ w.frozen? ⟨b, 1, none⟩ = false ∧ b < w.heap.size) ∧ Cels r w
theorem Cels.next {w w' : World} (hb : Below w.heap.size w w') : ∀ {l : List (Nat × Value × Value)}, Cels l w → Cels l w'
  | [], _ => trivial
  | (_, _, _) :: _, h => ⟨⟨keep_cell hb h.1.1, keep_cell hb h.1.2.1, keep_melt hb h.1.1 h.1.2.2.1, keep_melt hb h.1.2.1 h.1.2.2.2.1, Nat.lt_of_lt_of_le h.1.2.2.2.2 hb.size⟩, Cels.next hb h.2⟩
/-- What lies there, in a call that began at w. -/
structure Fs (w : World) (cs : List (Nat × Value × Value)) (l : List (Option Addr × Nat × Nat × List Nat)) (wx : World) : Prop where
  lie : Lies l wx
  cel : Cels cs wx
  bl : Below w.heap.size w wx
section
variable {w W w1 : World} {cs : List (Nat × Value × Value)} {l : List (Option Addr × Nat × Nat × List Nat)}
theorem Fs.start (w : World) : Fs w [] [] w := ⟨trivial, trivial, Below.refl _ _⟩
theorem Fs.next (s : Fs w cs l W) (hb : Below W.heap.size W w1) : Fs w cs l w1 := ⟨s.lie.next hb, s.cel.next hb, below_step s.bl hb⟩
theorem Fs.drew (s : Fs w cs l W) : Fs w cs l W.drew := s.next (Below.refl _ _).drew
theorem Fs.put {A : Option Addr} {n c : Nat} {xs : List Nat} (s : Fs w cs l W) (h : Lim W A n c xs) : Fs w cs ((A, n, c, xs) :: l) W := ⟨⟨h, s.lie⟩, s.cel, s.bl⟩
theorem Fs.box (s : Fs w cs l W) (u v : Value) : Fs w ((W.heap.size, u, v) :: cs) l (W.alloc (.cells #[u, v] 50)) := by
  have hb : Below W.heap.size W (W.alloc (.cells #[u, v] 50)) := (Below.refl _ _).alloc (Nat.le_refl _) _
  exact ⟨s.lie.next hb, ⟨⟨by simp [go_sem], by simp [go_sem], by simp [go_sem], by simp [go_sem], by simp⟩, s.cel.next hb⟩, below_step s.bl hb⟩
end
theorem Lim.setSl {w : World} {A B : Option Addr} {n c m k : Nat} {xs : List Nat} {p : Addr} (h : Lim w A n c xs) (hc : w.cell? p = some (.slice B m k)) (u : Value) : Lim (w.setCell p u) A n c xs :=
  ⟨h.len, h.cap, h.top, fun j hj => by
    obtain ⟨ad, e, q⟩ := h.at_ j hj
    exact ⟨ad, e, (World.cell?_setCell_other _ _ _ _ (fun z => by first | (rw [z, hc] at q; cases q) | (rw [← z, hc] at q; cases q))).trans q⟩, h.lo⟩
theorem Lim.put2 {w : World} {A B B' : Option Addr} {n c m k m' k' R : Nat} {xs : List Nat} (h : Lim w A n c xs) (c0 : w.cell? ⟨R, 0, none⟩ = some (.slice B m k)) (c1 : w.cell? ⟨R, 1, none⟩ = some (.slice B' m' k')) (u v : Value) : Lim ((w.setCell ⟨R, 0, none⟩ u).setCell ⟨R, 1, none⟩ v) A n c xs :=
  (h.setSl c0 u).setSl (B := B') (m := m') (k := k') ((World.cell?_setCell_other _ _ _ _ (by simp)).trans c1) v

/-- It is a fraction. -/
def Fr (xs ys : List Nat) : Prop := Nt xs ∧ Nt ys ∧ ys ≠ [] ∧ Nat.gcd (val xs) (val ys) = 1
open Classical in
/-- .. as a bool. -/
@[irreducible] noncomputable def frB (xs ys : List Nat) : Bool := decide (Fr xs ys)
open Classical in
theorem frB_yes {xs ys : List Nat} (h : Fr xs ys) : frB xs ys = true := by unfold frB; exact decide_eq_true h
open Classical in
theorem frB_no {xs ys : List Nat} (h : ¬ Fr xs ys) : frB xs ys = false := by unfold frB; exact decide_eq_false h

set_option maxHeartbeats 1000000 in
set_option maxRecDepth 100000 in
theorem ratRight_none {A A' : Option Addr} {n c c' : Nat} {w : World} : Calls Tryd.prog 38 #[.agg #[.slice A n c, .slice A' 0 c']] w fun e w' => e = .returned (.bool false) ∧ Below w.heap.size w w' := by
  go_enter Tryd.func38, Tryd.ntmps38
  go_wp2_with fail
  go_ret
  exact ⟨rfl, (Below.refl _ _).alloc (Nat.le_refl _) _⟩
set_option maxHeartbeats 1000000 in
set_option maxRecDepth 100000 in
theorem ratRight_bad {A A' : Option Addr} {n c n' c' : Nat} {xs ys : List Nat} {w : World} (ha : Lim w A n c xs) (hb : Lim w A' n' c' ys) (h0 : n' ≠ 0) (h : NoTwo xs ys) : Calls Tryd.prog 38 #[.agg #[.slice A n c, .slice A' n' c']] w fun e w' => e = .returned (.bool false) ∧ Below w.heap.size w w' := by
  have i0 : ((n' : Int) == 0) = false := by simp; omega
  have B0 : Below w.heap.size w (w.alloc (.cells #[.slice A n c, .slice A' n' c'] 50)) := (Below.refl _ _).alloc (Nat.le_refl _) _
  have K := Lib.hid (gcd_none (ha.next B0) (hb.next B0) h)
  clear ha hb h h0
  go_enter Tryd.func38, Tryd.ntmps38
  go_wp2_with fail
  refine K.out.mono ?_
  rintro e w' ⟨rfl, rfl⟩
  go_wp2_with fail
  go_ret
  exact ⟨rfl, B0⟩
theorem sgn_one (g : Nat) : (sgn g 1 == 0) = (g == 1) := by
  by_cases h : g = 1
  · subst h; rw [sgn_eq]; rfl
  · rw [show (g == 1) = false by simpa using h]
    rcases Nat.lt_or_gt_of_ne h with k | k
    · rw [sgn_lt k]; rfl
    · rw [sgn_gt k]; rfl
theorem ln_gcd {a b : Nat} (la : ln a ≤ 64) (lb : ln b ≤ 64) : ln (Nat.gcd a b) ≤ 64 := by
  by_cases z : a = 0
  · subst z; rw [Nat.gcd_zero_left]; exact lb
  · exact Nat.le_trans (ln_mono (Nat.gcd_le_left _ (by omega))) la
set_option maxHeartbeats 1000000 in
set_option maxRecDepth 100000 in
theorem ratRight_nat {A A' : Option Addr} {n c n' c' a b : Nat} {w : World} (ha : Lim w A n c (limbs a)) (hb : Lim w A' n' c' (limbs b)) (h0 : n' ≠ 0) (la : ln a ≤ 64) (lb : ln b ≤ 64) : Calls Tryd.prog 38 #[.agg #[.slice A n c, .slice A' n' c']] w fun e w' => e = .returned (.bool (Nat.gcd a b == 1)) ∧ Below w.heap.size w w' := by
  have i0 : ((n' : Int) == 0) = false := by simp; omega
  have B0 : Below w.heap.size w (w.alloc (.cells #[.slice A n c, .slice A' n' c'] 50)) := (Below.refl _ _).alloc (Nat.le_refl _) _
  have K := Lib.hid (gcd_any (ha.next B0) (hb.next B0) la lb)
  have K1 : Hid (∀ W, Calls Tryd.prog 25 #[.int .u64 1] W fun e w' => RetN 1 W e w') := fun W => of_any 1 (by decide) W
  have lg := ln_gcd la lb
  obtain ⟨g, hg⟩ : ∃ g, Nat.gcd a b = g := ⟨_, rfl⟩
  rw [hg] at K lg ⊢
  have E := Lib.hid (sgn_one g)
  clear ha hb h0 la lb hg
  go_enter Tryd.func38, Tryd.ntmps38
  go_wp2_with fail
  refine K.out.mono ?_
  rintro e w1 ⟨A1, n1, c1, rfl, L1, B1⟩
  have S := (((Sts.start w).next B0).next B1).put L1
  clear L1 B1 B0 K
  go_wp2_with fail
  refine (K1.out _).mono ?_
  rintro e w2 ⟨A2, n2, c2, rfl, L2, B2⟩
  have S := (S.next B2).put L2
  clear L2 B2
  go_wp2_with fail
  refine (cmp_bel S.lie.2.1 S.lie.1 lg (ln_tiny (by decide))).mono ?_
  rintro e w3 ⟨rfl, B3⟩
  have S := S.next B3
  clear B3
  go_wp2_with fail
  go_ret
  refine ⟨?_, S.bl⟩
  rw [← E.out]
  rfl
theorem ratRight_any {A A' : Option Addr} {n c n' c' : Nat} {xs ys : List Nat} {w : World} (ha : Lim w A n c xs) (hb : Lim w A' n' c' ys) : Calls Tryd.prog 38 #[.agg #[.slice A n c, .slice A' n' c']] w fun e w' => e = .returned (.bool (frB xs ys)) ∧ Below w.heap.size w w' := by
  by_cases h0 : n' = 0
  · subst h0
    rw [frB_no (fun h => h.2.2.1 (List.length_eq_zero_iff.1 hb.len))]
    exact ratRight_none
  · by_cases h : Nt xs ∧ Nt ys
    · have e1 := h.1.eq ha.lo
      have e2 := h.2.eq hb.lo
      have l1 : ln (val xs) = n := by rw [← limbs_length, ← e1]; exact ha.len
      have l2 : ln (val ys) = n' := by rw [← limbs_length, ← e2]; exact hb.len
      have m1 := h.1.1; have m2 := h.2.1
      have q1 := ha.len; have q2 := hb.len
      have K := ratRight_nat (e1 ▸ ha) (e2 ▸ hb) h0 (by omega) (by omega)
      have : frB xs ys = (Nat.gcd (val xs) (val ys) == 1) := by
        by_cases k : Nat.gcd (val xs) (val ys) = 1
        · rw [show (Nat.gcd (val xs) (val ys) == 1) = true by simpa using k]; exact frB_yes ⟨h.1, h.2, fun z => by subst z; simp at q2; omega, k⟩
        · rw [show (Nat.gcd (val xs) (val ys) == 1) = false by simpa using k]; exact frB_no fun f => k f.2.2.2
      rw [this]; exact K
    · rw [frB_no fun f => h ⟨f.1, f.2.1⟩]
      exact ratRight_bad ha hb h0 h

/-- A fraction in plain numbers. -/
structure Fq (p q : Nat) : Prop where
  lp : ln p ≤ 64
  lq : ln q ≤ 64
  q0 : q ≠ 0
  co : Nat.gcd p q = 1
theorem Fr.num {xs ys : List Nat} (h : Fr xs ys) (l1 : Lo xs) (l2 : Lo ys) : Fq (val xs) (val ys) ∧ xs = limbs (val xs) ∧ ys = limbs (val ys) := by
  have e1 := h.1.eq l1
  have e2 := h.2.1.eq l2
  have a1 : ln (val xs) = xs.length := by rw [← limbs_length, ← e1]
  have a2 : ln (val ys) = ys.length := by rw [← limbs_length, ← e2]
  have m1 := h.1.1; have m2 := h.2.1.1
  refine ⟨⟨by omega, by omega, fun z => ?_, h.2.2.2⟩, e1, e2⟩
  rw [z, limbs_zero] at e2
  exact h.2.2.1 e2
theorem Fq.fr {p q : Nat} (h : Fq p q) : Fr (limbs p) (limbs q) := ⟨.of h.lp, .of h.lq, fun z => h.q0 (by rw [← val_limbs q, z, val_nil]), by rw [val_limbs, val_limbs]; exact h.co⟩

/-- A pair of naturals and an error's number. -/
abbrev Ans := Nat × Nat × Int
/-- What a call answers that makes a fraction. -/
def RetR (p q : Nat) (w : World) (e : Ending) (w' : World) : Prop := ∃ A n c A' n' c', e = .returned (.agg #[.slice A n c, .slice A' n' c']) ∧ Lim w' A n c (limbs p) ∧ Lim w' A' n' c' (limbs q) ∧ Below w.heap.size w w'
/-- .. and an error. -/
def RetA3 (r : Ans) (w : World) (e : Ending) (w' : World) : Prop := ∃ A n c A' n' c', e = .returned (.tuple #[.agg #[.slice A n c, .slice A' n' c'], .int .i64 r.2.2]) ∧ Lim w' A n c (limbs r.1) ∧ Lim w' A' n' c' (limbs r.2.1) ∧ Below w.heap.size w w'

set_option maxHeartbeats 1000000 in
set_option maxRecDepth 100000 in
theorem reduced_any {A A' : Option Addr} {n c n' c' a b : Nat} {w : World} (ha : Lim w A n c (limbs a)) (hb : Lim w A' n' c' (limbs b)) (la : ln a ≤ 64) (lb : ln b ≤ 64) (b0 : b ≠ 0) : Calls Tryd.prog 90 #[.slice A n c, .slice A' n' c'] w fun e w' => RetR (a / Nat.gcd a b) (b / Nat.gcd a b) w e w' := by
  have lg := ln_gcd la lb
  obtain ⟨g, hg⟩ : ∃ g, Nat.gcd a b = g := ⟨_, rfl⟩
  have g0 : g ≠ 0 := by
    intro z
    rw [z] at hg
    exact b0 (Nat.eq_zero_of_gcd_eq_zero_right hg)
  rw [hg] at lg ⊢
  have HG := Lib.hid hg
  have S := (((Fs.start w).put ha).put hb).box (.slice none 0 0) (.slice none 0 0)
  clear ha hb hg b0
  go_enter Tryd.func90, Tryd.ntmps90
  go_wp2_with fail
  generalize w.alloc (.cells #[.slice none 0 0, .slice none 0 0] 50) = w0 at *
  have K := gcd_any S.lie.2.1 S.lie.1 la lb
  rw [HG.out] at K
  refine K.mono ?_
  clear K
  rintro e w1 ⟨A1, n1, c1, rfl, L1, B1⟩
  have S := (S.next B1).put L1
  clear L1 B1
  go_wp2_with fail
  refine (div_any S.lie.2.2.1 S.lie.1 la lg g0).mono ?_
  rintro e w2 ⟨A2, n2, c2, A3, n3, c3, rfl, L2, L3, B2⟩
  have S := (S.next B2).put L2
  clear L2 L3 B2
  go_wp2_with fail
  refine (div_any S.lie.2.2.1 S.lie.2.1 lb lg g0).mono ?_
  rintro e w4 ⟨A4, n4, c4, A5, n5, c5, rfl, L4, L5, B4⟩
  have S := (S.next B4).put L4
  clear L4 L5 B4
  obtain ⟨⟨c0, c1, m0, m1, sz⟩, _⟩ := S.cel
  go_wp2_with fail
  go_light
  exact bodyPost_ret (v := .agg #[.slice A2 n2 c2, .slice A4 n4 c4]) (by simp [results, Tryd.results90, go_sem, c0, c1]) rfl ⟨_, _, _, _, _, _, rfl, S.lie.2.1.put2 c0 c1 _ _, S.lie.1.put2 c0 c1 _ _, (S.bl.setCell (Nat.le_refl _) _).setCell (Nat.le_refl _) _⟩
end Go.Proofs.YtdnikdocfbbkkaaDoor
