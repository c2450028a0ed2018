/- What the calls of rat answer, in plain numbers; the walks of Make, Whole, Text. Plain arithmetic of fractions: what is reduced, and what the laws of rat ask. Plain arithmetic: the fraction that a float64 is, and the middle of two that follow one another. -/
import Derived.Test.YtdnikdocfbbkkaaDoorJ08
import Derived.Laws.IdiomStrings
import Derived.Test.YtdnikdocfbbkkaaDoorJ00
namespace Go.Proofs.YtdnikdocfbbkkaaDoor
open Go.RowKit
set_option linter.unusedVariables false
set_option linter.unusedSimpArgs false

/-- Sum, difference, product, quotient: limbs above, below, and the error's number. -/
@[irreducible] def addR (p q p' q' : Nat) : Ans := if ln (q * q') ≤ 64 ∧ ln (p * q') ≤ 64 ∧ ln (p' * q) ≤ 64 ∧ ln (p * q' + p' * q) ≤ 64 then red (p * q' + p' * q) (q * q') else (0, 0, 6)
@[irreducible] def subR (p q p' q' : Nat) : Ans := if ln (q * q') ≤ 64 ∧ ln (p * q') ≤ 64 ∧ ln (p' * q) ≤ 64 then (if p' * q ≤ p * q' then red (p * q' - p' * q) (q * q') else (0, 0, 1)) else (0, 0, 6)
@[irreducible] def mulR (p q p' q' : Nat) : Ans := if ln (p * p') ≤ 64 ∧ ln (q * q') ≤ 64 then red (p * p') (q * q') else (0, 0, 6)
@[irreducible] def divR (p q p' q' : Nat) : Ans := if p' = 0 then (0, 0, 7) else if ln (p * q') ≤ 64 ∧ ln (p' * q) ≤ 64 then red (p * q') (p' * q) else (0, 0, 6)
@[irreducible] def cmpN (p q p' q' : Nat) : Int := if ln (p * q') ≤ 64 ∧ ln (p' * q) ≤ 64 then sgn (p * q') (p' * q) else 0
@[irreducible] def cmpE (p q p' q' : Nat) : Int := if ln (p * q') ≤ 64 ∧ ln (p' * q) ≤ 64 then 0 else 6

section
variable {A A' D D' : Option Addr} {n c n' c' m k m' k' : Nat} {p q p' q' : Nat} {w : World}
theorem ratAdd_any (ha : Lim w A n c (limbs p)) (ha' : Lim w A' n' c' (limbs q)) (hb : Lim w D m k (limbs p')) (hb' : Lim w D' m' k' (limbs q')) (f : Fq p q) (g : Fq p' q') : Calls Tryd.prog 39 #[.agg #[.slice A n c, .slice A' n' c'], .agg #[.slice D m k, .slice D' m' k']] w fun e w' => RetA3 (addR p q p' q') w e w' := by
  refine ratAdd_of ha ha' hb hb' fun W l1 l2 l3 l4 => ?_
  unfold addR
  by_cases h0 : ln (q * q') ≤ 64
  · by_cases h : ln (p * q') ≤ 64 ∧ ln (p' * q) ≤ 64
    · by_cases h3 : ln (p * q' + p' * q) ≤ 64
      · rw [if_pos ⟨h0, h.1, h.2, h3⟩]; exact joinedAdd_yes l1 l2 l3 l4 f g h0 h.1 h.2 h3
      · rw [if_neg fun z => h3 z.2.2.2]; exact joinedAdd_sum l1 l2 l3 l4 f g h0 h.1 h.2 h3
    · rw [if_neg fun z => h ⟨z.2.1, z.2.2.1⟩]; exact joinedAdd_big l1 l2 l3 l4 f g h0 h
  · rw [if_neg fun z => h0 z.1]; exact joinedAdd_den l1 l2 l3 l4 f g h0
theorem ratSub_any (ha : Lim w A n c (limbs p)) (ha' : Lim w A' n' c' (limbs q)) (hb : Lim w D m k (limbs p')) (hb' : Lim w D' m' k' (limbs q')) (f : Fq p q) (g : Fq p' q') : Calls Tryd.prog 40 #[.agg #[.slice A n c, .slice A' n' c'], .agg #[.slice D m k, .slice D' m' k']] w fun e w' => RetA3 (subR p q p' q') w e w' := by
  refine ratSub_of ha ha' hb hb' fun W l1 l2 l3 l4 => ?_
  unfold subR
  by_cases h0 : ln (q * q') ≤ 64
  · by_cases h : ln (p * q') ≤ 64 ∧ ln (p' * q) ≤ 64
    · rw [if_pos ⟨h0, h.1, h.2⟩]
      by_cases h3 : p' * q ≤ p * q'
      · rw [if_pos h3]; exact joinedSub_yes l1 l2 l3 l4 f g h0 h.1 h.2 h3
      · rw [if_neg h3]; exact joinedSub_low l1 l2 l3 l4 f g h0 h.1 h.2 (by omega)
    · rw [if_neg fun z => h ⟨z.2.1, z.2.2⟩]; exact joinedSub_big l1 l2 l3 l4 f g h0 h
  · rw [if_neg fun z => h0 z.1]; exact joinedSub_den l1 l2 l3 l4 f g h0
theorem ratMul_any (ha : Lim w A n c (limbs p)) (ha' : Lim w A' n' c' (limbs q)) (hb : Lim w D m k (limbs p')) (hb' : Lim w D' m' k' (limbs q')) (f : Fq p q) (g : Fq p' q') : Calls Tryd.prog 41 #[.agg #[.slice A n c, .slice A' n' c'], .agg #[.slice D m k, .slice D' m' k']] w fun e w' => RetA3 (mulR p q p' q') w e w' := by
  unfold mulR
  by_cases h : ln (p * p') ≤ 64 ∧ ln (q * q') ≤ 64
  · rw [if_pos h]; exact ratMul_yes ha ha' hb hb' f g h.1 h.2
  · rw [if_neg h]; exact ratMul_big ha ha' hb hb' f g h
theorem ratDiv_any (ha : Lim w A n c (limbs p)) (ha' : Lim w A' n' c' (limbs q)) (hb : Lim w D m k (limbs p')) (hb' : Lim w D' m' k' (limbs q')) (f : Fq p q) (g : Fq p' q') : Calls Tryd.prog 42 #[.agg #[.slice A n c, .slice A' n' c'], .agg #[.slice D m k, .slice D' m' k']] w fun e w' => RetA3 (divR p q p' q') w e w' := by
  unfold divR
  by_cases z : p' = 0
  · subst z
    have hm := hb.len
    rw [limbs_zero] at hm
    obtain rfl : m = 0 := hm.symm
    rw [if_pos rfl]; exact ratDiv_zero ha ha' hb hb' f g
  · rw [if_neg z]
    by_cases h : ln (p * q') ≤ 64 ∧ ln (p' * q) ≤ 64
    · rw [if_pos h]; exact ratDiv_yes ha ha' hb hb' f g z h.1 h.2
    · rw [if_neg h]; exact ratDiv_big ha ha' hb hb' f g z h
theorem ratCmp_any (ha : Lim w A n c (limbs p)) (ha' : Lim w A' n' c' (limbs q)) (hb : Lim w D m k (limbs p')) (hb' : Lim w D' m' k' (limbs q')) (f : Fq p q) (g : Fq p' q') : Calls Tryd.prog 43 #[.agg #[.slice A n c, .slice A' n' c'], .agg #[.slice D m k, .slice D' m' k']] w fun e w' => e = .returned (.tuple #[.int .i64 (cmpN p q p' q'), .int .i64 (cmpE p q p' q')]) ∧ Below w.heap.size w w' := by
  unfold cmpN cmpE
  by_cases h : ln (p * q') ≤ 64 ∧ ln (p' * q) ≤ 64
  · rw [if_pos h, if_pos h]; exact ratCmp_yes ha ha' hb hb' f g h.1 h.2
  · rw [if_neg h, if_neg h]; exact ratCmp_big ha ha' hb hb' f g h
end
theorem ratAdd_bad {A A' D D' : Option Addr} {n c n' c' m k m' k' : Nat} {xs ys us vs : List Nat} {w : World} (ha : Lim w A n c xs) (ha' : Lim w A' n' c' ys) (hb : Lim w D m k us) (hb' : Lim w D' m' k' vs) (f : ¬ (Fr xs ys ∧ Fr us vs)) : Calls Tryd.prog 39 #[.agg #[.slice A n c, .slice A' n' c'], .agg #[.slice D m k, .slice D' m' k']] w fun e w' => RetA3 (0, 0, 1) w e w' :=
  ratAdd_of ha ha' hb hb' fun W l1 l2 l3 l4 => joinedAdd_bad l1 l2 l3 l4 f
theorem ratSub_bad {A A' D D' : Option Addr} {n c n' c' m k m' k' : Nat} {xs ys us vs : List Nat} {w : World} (ha : Lim w A n c xs) (ha' : Lim w A' n' c' ys) (hb : Lim w D m k us) (hb' : Lim w D' m' k' vs) (f : ¬ (Fr xs ys ∧ Fr us vs)) : Calls Tryd.prog 40 #[.agg #[.slice A n c, .slice A' n' c'], .agg #[.slice D m k, .slice D' m' k']] w fun e w' => RetA3 (0, 0, 1) w e w' :=
  ratSub_of ha ha' hb hb' fun W l1 l2 l3 l4 => joinedSub_bad l1 l2 l3 l4 f

theorem tens_len (n : Nat) : ∀ k, n < 10 ^ k → (tens n).length ≤ k := by
  induction n using Nat.strongRecOn with
  | _ n ih =>
    intro k hk
    by_cases h : n = 0
    · rw [h, tens_zero]; exact Nat.zero_le _
    · rw [tens_pos h, List.length_cons]
      cases k with
      | zero => simp at hk; exact absurd hk h
      | succ k =>
        have := ih (n / 10) (Nat.div_lt_self (Nat.pos_of_ne_zero h) (by decide)) k ((Nat.div_lt_iff_lt_mul (by decide)).2 (by rw [Nat.pow_succ] at hk; exact hk))
        omega
theorem dtext_len {a : Nat} (h : ln a ≤ 64) : (dtext a).length ≤ 1000 := by
  by_cases z : a = 0
  · rw [z, dtext_zero]; simp
  · rw [dtext_pos z, List.length_reverse, List.length_map]
    have := tens_len a _ (lt_630 h)
    omega
theorem cat3 (P Q : List UInt8) : (⟨P.toArray⟩ ++ ⟨#[47]⟩ ++ ⟨Q.toArray⟩ : ByteArray) = ⟨(P ++ 47 :: Q).toArray⟩ := by
  apply ByteArray.ext
  rw [ByteArray.data_append, ByteArray.data_append]
  simp
theorem keep_drew {w : World} {p : Addr} {v : Value} (h : w.cell? p = some v) : w.drew.cell? p = some v := h
theorem lim_z (w : World) : Lim w none 0 0 (limbs 0) := by rw [limbs_zero]; exact Lim.none_ _ _ _ (by decide)
set_option maxHeartbeats 1000000 in
set_option maxRecDepth 100000 in
theorem make_bad {A A' : Option Addr} {n c n' c' : Nat} {xs ys : List Nat} {w : World} (ha : Lim w A n c xs) (hb : Lim w A' n' c' ys) (h : NoTwo xs ys) : Calls Tryd.prog 49 #[.slice A n c, .slice A' n' c'] w fun e w' => RetA3 (0, 0, 1) w e w' := by
  have S := (((Fs.start w).put ha).put hb).box (.slice none 0 0) (.slice none 0 0)
  clear ha hb
  by_cases ka : Nt xs
  · have kb : ¬ Nt ys := fun z => h ⟨ka, z⟩
    go_enter Tryd.func49, Tryd.ntmps49
    go_wp2_with fail
    generalize w.alloc (.cells #[.slice none 0 0, .slice none 0 0] 50) = w0 at *
    have e1 := ka.eq S.lie.2.1.lo
    have K := right_yes (e1 ▸ S.lie.2.1) (by unfold ln; rw [← e1]; exact ka.1)
    clear e1
    refine K.mono ?_
    clear K
    rintro e w' ⟨rfl, rfl⟩
    go_wp2_with fail
    refine (right_no S.lie.1 kb).mono ?_
    rintro e w' ⟨rfl, rfl⟩
    obtain ⟨⟨c0, c1, m0, m1, sz⟩, _⟩ := S.cel
    go_wp2_with fail
    go_light
    exact bodyPost_ret (v := .tuple #[.agg #[.slice none 0 0, .slice none 0 0], .int .i64 1]) (by simp [results, Tryd.results49, go_sem, c0, c1]) rfl ⟨_, _, _, _, _, _, rfl, lim_z _, lim_z _, (S.bl.setCell (Nat.le_refl _) _).setCell (Nat.le_refl _) _⟩
  · go_enter Tryd.func49, Tryd.ntmps49
    go_wp2_with fail
    generalize w.alloc (.cells #[.slice none 0 0, .slice none 0 0] 50) = w0 at *
    refine (right_no S.lie.2.1 ka).mono ?_
    rintro e w' ⟨rfl, rfl⟩
    obtain ⟨⟨c0, c1, m0, m1, sz⟩, _⟩ := S.cel
    go_wp2_with fail
    go_light
    exact bodyPost_ret (v := .tuple #[.agg #[.slice none 0 0, .slice none 0 0], .int .i64 1]) (by simp [results, Tryd.results49, go_sem, c0, c1]) rfl ⟨_, _, _, _, _, _, rfl, lim_z _, lim_z _, (S.bl.setCell (Nat.le_refl _) _).setCell (Nat.le_refl _) _⟩
set_option maxHeartbeats 1000000 in
set_option maxRecDepth 100000 in
theorem make_zero {A A' : Option Addr} {n c c' a : Nat} {w : World} (ha : Lim w A n c (limbs a)) (hb : Lim w A' 0 c' (limbs 0)) (la : ln a ≤ 64) : Calls Tryd.prog 49 #[.slice A n c, .slice A' 0 c'] w fun e w' => RetA3 (0, 0, 7) w e w' := by
  have S := (((Fs.start w).put ha).put hb).box (.slice none 0 0) (.slice none 0 0)
  clear ha hb
  go_enter Tryd.func49, Tryd.ntmps49
  go_wp2_with fail
  generalize w.alloc (.cells #[.slice none 0 0, .slice none 0 0] 50) = w0 at *
  refine (right_yes S.lie.2.1 la).mono ?_
  rintro e w' ⟨rfl, rfl⟩
  go_wp2_with fail
  refine (right_yes S.lie.1 (by rw [ln_zero]; decide)).mono ?_
  rintro e w' ⟨rfl, rfl⟩
  obtain ⟨⟨c0, c1, m0, m1, sz⟩, _⟩ := S.cel
  go_wp2_with fail
  go_light
  exact bodyPost_ret (v := .tuple #[.agg #[.slice none 0 0, .slice none 0 0], .int .i64 7]) (by simp [results, Tryd.results49, go_sem, c0, c1]) rfl ⟨_, _, _, _, _, _, rfl, lim_z _, lim_z _, (S.bl.setCell (Nat.le_refl _) _).setCell (Nat.le_refl _) _⟩
set_option maxHeartbeats 1000000 in
set_option maxRecDepth 100000 in
theorem make_yes {A A' : Option Addr} {n c n' c' a b : Nat} {w : World} (ha : Lim w A n c (limbs a)) (hb : Lim w A' n' c' (limbs b)) (la : ln a ≤ 64) (lb : ln b ≤ 64) (b0 : b ≠ 0) : Calls Tryd.prog 49 #[.slice A n c, .slice A' n' c'] w fun e w' => RetA3 (red a b) w e w' := by
  have hm := hb.len
  rw [limbs_length] at hm
  have hm0 := ln_pos b0
  have i0 : ((n' : Int) == 0) = false := by simp; omega
  clear hm hm0
  have S := (((Fs.start w).put ha).put hb).box (.slice none 0 0) (.slice none 0 0)
  clear ha hb
  go_enter Tryd.func49, Tryd.ntmps49
  go_wp2_with fail
  generalize w.alloc (.cells #[.slice none 0 0, .slice none 0 0] 50) = w0 at *
  refine (right_yes S.lie.2.1 la).mono ?_
  rintro e w' ⟨rfl, rfl⟩
  go_wp2_with fail
  refine (right_yes S.lie.1 lb).mono ?_
  rintro e w' ⟨rfl, rfl⟩
  go_wp2_with fail
  refine (reduced_any S.lie.2.1 S.lie.1 la lb b0).mono ?_
  rintro e w1 ⟨A1, n1, c1', A2, n2, c2', rfl, L1, L2, B1⟩
  have S := ((S.next B1).put L1).put L2
  clear B1 L1 L2
  obtain ⟨⟨c0, c1, m0, m1, sz⟩, _⟩ := S.cel
  go_wp2_with fail
  go_light
  exact bodyPost_ret (v := .tuple #[.agg #[.slice A1 n1 c1', .slice A2 n2 c2'], .int .i64 0]) (by simp [results, Tryd.results49, go_sem, c0, c1]) rfl ⟨_, _, _, _, _, _, rfl, S.lie.2.1.put2 c0 c1 _ _, S.lie.1.put2 c0 c1 _ _, (S.bl.setCell (Nat.le_refl _) _).setCell (Nat.le_refl _) _⟩
set_option maxHeartbeats 1000000 in
set_option maxRecDepth 100000 in
theorem whole_r (x : Nat) (hx : x < 18446744073709551616) (w : World) : Calls Tryd.prog 50 #[.int .u64 (x : Int)] w fun e w' => RetR x 1 w e w' := by
  have K := Lib.hid (of_any x hx)
  have K1 : Hid (∀ W, Calls Tryd.prog 25 #[.int .u64 1] W fun e w' => RetN 1 W e w') := fun W => of_any 1 (by decide) W
  have S := (Fs.start w).box (.slice none 0 0) (.slice none 0 0)
  go_enter Tryd.func50, Tryd.ntmps50
  go_wp2_with fail
  generalize w.alloc (.cells #[.slice none 0 0, .slice none 0 0] 50) = w0 at *
  refine (K.out _).mono ?_
  rintro e w1 ⟨A1, n1, c1', rfl, L1, B1⟩
  have S := (S.next B1).put L1
  clear B1 L1
  go_wp2_with fail
  refine (K1.out _).mono ?_
  rintro e w2 ⟨A2, n2, c2', rfl, L2, B2⟩
  have S := (S.next B2).put L2
  clear B2 L2
  obtain ⟨⟨c0, c1, m0, m1, sz⟩, _⟩ := S.cel
  go_wp2_with fail
  go_light
  exact bodyPost_ret (v := .agg #[.slice A1 n1 c1', .slice A2 n2 c2']) (by simp [results, Tryd.results50, go_sem, c0, c1]) rfl ⟨_, _, _, _, _, _, rfl, S.lie.2.1.put2 c0 c1 _ _, S.lie.1.put2 c0 c1 _ _, (S.bl.setCell (Nat.le_refl _) _).setCell (Nat.le_refl _) _⟩
set_option maxHeartbeats 1000000 in
set_option maxRecDepth 100000 in
theorem ratText_no {A A' : Option Addr} {n c n' c' : Nat} {xs ys : List Nat} {w : World} (ha : Lim w A n c xs) (hb : Lim w A' n' c' ys) (f : ¬ Fr xs ys) : Calls Tryd.prog 45 #[.agg #[.slice A n c, .slice A' n' c']] w fun e w' => e = .returned (.string ⟨#[]⟩) ∧ Below w.heap.size w w' := by
  have S := (((Fs.start w).put ha).put hb).box (.slice A n c) (.slice A' n' c')
  clear ha hb
  go_enter Tryd.func45, Tryd.ntmps45
  go_wp2_with fail
  generalize w.alloc (.cells #[.slice A n c, .slice A' n' c'] 50) = w0 at *
  have K := ratRight_any S.lie.2.1 S.lie.1
  rw [frB_no f] at K
  refine K.mono ?_
  clear K
  rintro e w1 ⟨rfl, B1⟩
  have S := S.next B1
  clear B1
  go_wp2_with fail
  go_ret
  exact ⟨rfl, S.bl⟩
set_option maxHeartbeats 2000000 in
set_option maxRecDepth 100000 in
theorem ratText_yes {A A' : Option Addr} {n c n' c' p q : Nat} {w : World} (ha : Lim w A n c (limbs p)) (hb : Lim w A' n' c' (limbs q)) (f : Fq p q) : Calls Tryd.prog 45 #[.agg #[.slice A n c, .slice A' n' c']] w fun e w' => e = .returned (.string ⟨(dtext p ++ 47 :: dtext q).toArray⟩) ∧ Below w.heap.size w w' := by
  have S := (((Fs.start w).put ha).put hb).box (.slice A n c) (.slice A' n' c')
  clear ha hb
  go_enter Tryd.func45, Tryd.ntmps45
  go_wp2_with fail
  generalize w.alloc (.cells #[.slice A n c, .slice A' n' c'] 50) = w0 at *
  have K := ratRight_any S.lie.2.1 S.lie.1
  rw [frB_yes f.fr] at K
  refine K.mono ?_
  clear K
  rintro e w1 ⟨rfl, B1⟩
  have S := S.next B1
  clear B1
  go_upto_region 3 with fail
  have LA := S.lie.2.1
  have LB := S.lie.1
  have lp := f.lp; have lq := f.lq
  obtain ⟨P, hP⟩ : ∃ P, dtext p = P := ⟨_, rfl⟩
  obtain ⟨Q, hQ⟩ : ∃ Q, dtext q = Q := ⟨_, rfl⟩
  have sP : P.length ≤ 1000 := by rw [← hP]; exact dtext_len lp
  have sQ : Q.length ≤ 1000 := by rw [← hQ]; exact dtext_len lq
  have t1 : ¬ 9223372036854775807 < P.length + 1 := by omega
  have t2 : ¬ 9223372036854775807 < P.length + 1 + Q.length := by omega
  have TA : ∀ W, Below w1.heap.size w1 W → Calls Tryd.prog 23 #[.slice A n c] W fun e w' => e = .returned (.string ⟨P.toArray⟩) ∧ Below W.heap.size W w' := fun W h => hP ▸ text_any (LA.next h) lp
  have TB : ∀ W, Below w1.heap.size w1 W → Calls Tryd.prog 23 #[.slice A' n' c'] W fun e w' => e = .returned (.string ⟨Q.toArray⟩) ∧ Below W.heap.size W w' := fun W h => hQ ▸ text_any (LB.next h) lq
  obtain ⟨⟨c0, c1, -⟩, -⟩ := S.cel
  have TA := Lib.hid TA; have TB := Lib.hid TB
  have SB := Lib.hid S.bl
  have HP := Lib.hid hP; have HQ := Lib.hid hQ
  clear S f LA LB lp lq sP sQ hP hQ
  go_region_held3 (fun w' => w'.cell? ⟨w.heap.size, 0, none⟩ = some (.slice A n c) ∧ w'.cell? ⟨w.heap.size, 1, none⟩ = some (.slice A' n' c'))
    ((refine ⟨?_, ?_⟩ <;> (repeat (first | with_reducible exact c0 | with_reducible exact c1 | with_reducible refine keep_drew ?_ | with_reducible refine keep_cell (by assumption) ?_))))
    (first
      | (go_at_call 23; (first | with_reducible refine (TA.out _ ?_).mono ?_ | with_reducible refine (TB.out _ ?_).mono ?_); (· repeat (first | with_reducible exact Below.refl _ _ | with_reducible exact (Below.refl _ _).drew | refine below_step ?_ (by assumption))); rintro e z ⟨rfl, Bz⟩))
  go_wp2_with fail
  go_ret
  refine ⟨?_, ?_⟩
  · rw [HP.out, HQ.out, ← cat3]; rfl
  · repeat (first | with_reducible exact SB.out.drew | refine below_step ?_ (by assumption))

theorem addR_yes {p q p' q' : Nat} (h0 : ln (q * q') ≤ 64) (h1 : ln (p * q') ≤ 64) (h2 : ln (p' * q) ≤ 64) (h3 : ln (p * q' + p' * q) ≤ 64) : addR p q p' q' = red (p * q' + p' * q) (q * q') := by unfold addR; rw [if_pos ⟨h0, h1, h2, h3⟩]
theorem subR_yes {p q p' q' : Nat} (h0 : ln (q * q') ≤ 64) (h1 : ln (p * q') ≤ 64) (h2 : ln (p' * q) ≤ 64) (h3 : p' * q ≤ p * q') : subR p q p' q' = red (p * q' - p' * q) (q * q') := by unfold subR; rw [if_pos ⟨h0, h1, h2⟩, if_pos h3]
theorem subR_low {p q p' q' : Nat} (h0 : ln (q * q') ≤ 64) (h1 : ln (p * q') ≤ 64) (h2 : ln (p' * q) ≤ 64) (h3 : p * q' < p' * q) : subR p q p' q' = (0, 0, 1) := by unfold subR; rw [if_pos ⟨h0, h1, h2⟩, if_neg (by omega)]
theorem mulR_yes {p q p' q' : Nat} (h0 : ln (p * p') ≤ 64) (h1 : ln (q * q') ≤ 64) : mulR p q p' q' = red (p * p') (q * q') := by unfold mulR; rw [if_pos ⟨h0, h1⟩]
theorem divR_zero {p q q' : Nat} : divR p q 0 q' = (0, 0, 7) := by unfold divR; rw [if_pos rfl]
theorem divR_yes {p q p' q' : Nat} (z : p' ≠ 0) (h0 : ln (p * q') ≤ 64) (h1 : ln (p' * q) ≤ 64) : divR p q p' q' = red (p * q') (p' * q) := by unfold divR; rw [if_neg z, if_pos ⟨h0, h1⟩]
theorem cmpN_yes {p q p' q' : Nat} (h0 : ln (p * q') ≤ 64) (h1 : ln (p' * q) ≤ 64) : cmpN p q p' q' = sgn (p * q') (p' * q) := by unfold cmpN; rw [if_pos ⟨h0, h1⟩]
theorem cmpE_yes {p q p' q' : Nat} (h0 : ln (p * q') ≤ 64) (h1 : ln (p' * q) ≤ 64) : cmpE p q p' q' = 0 := by unfold cmpE; rw [if_pos ⟨h0, h1⟩]
end Go.Proofs.YtdnikdocfbbkkaaDoor
namespace Go.Proofs.YtdnikdocfbbkkaaDoor
set_option linter.unusedVariables false

theorem red_scale {k x y : Nat} (hk : k ≠ 0) : red (k * x) (k * y) = red x y := by
  unfold red
  rw [Nat.gcd_mul_left, Nat.mul_div_mul_left _ _ (Nat.pos_of_ne_zero hk), Nat.mul_div_mul_left _ _ (Nat.pos_of_ne_zero hk)]
theorem red_self {p q : Nat} (h : Nat.gcd p q = 1) : red p q = (p, q, 0) := by
  unfold red
  rw [h, Nat.div_one, Nat.div_one]
/-- What is reduced, in letters. -/
theorem red_get (x y : Nat) (y0 : y ≠ 0) : ∃ g a b, g ≠ 0 ∧ x = g * a ∧ y = g * b ∧ red x y = (a, b, 0) ∧ b ≠ 0 ∧ Nat.gcd a b = 1 ∧ ln a ≤ ln x ∧ ln b ≤ ln y := by
  have hg : Nat.gcd x y ≠ 0 := fun z => y0 (Nat.eq_zero_of_gcd_eq_zero_right z)
  have e1 := Nat.mul_div_cancel' (Nat.gcd_dvd_left x y)
  have e2 := Nat.mul_div_cancel' (Nat.gcd_dvd_right x y)
  refine ⟨Nat.gcd x y, x / Nat.gcd x y, y / Nat.gcd x y, hg, e1.symm, e2.symm, rfl, fun z => y0 (by rw [← e2, z, Nat.mul_zero]), ?_, ln_mono (Nat.div_le_self _ _), ln_mono (Nat.div_le_self _ _)⟩
  have e3 : Nat.gcd (Nat.gcd x y * (x / Nat.gcd x y)) (Nat.gcd x y * (y / Nat.gcd x y)) = Nat.gcd x y * Nat.gcd (x / Nat.gcd x y) (y / Nat.gcd x y) := Nat.gcd_mul_left _ _ _
  rw [e1, e2] at e3
  exact Nat.eq_of_mul_eq_mul_left (Nat.pos_of_ne_zero hg) (by rw [← e3, Nat.mul_one])

/-- The fraction a over b is x over y, reduced; x has at most m limbs, y at most n. -/
structure Is (a b x y m n : Nat) : Prop where
  eq : red x y = (a, b, 0)
  g : ∃ g, g ≠ 0 ∧ x = g * a ∧ y = g * b
  y0 : y ≠ 0
  co : Nat.gcd a b = 1
  la : ln a ≤ m
  lb : ln b ≤ n
theorem Is.b0 {a b x y m n : Nat} (h : Is a b x y m n) : b ≠ 0 := by
  obtain ⟨g, _, _, e⟩ := h.g
  rintro rfl
  exact h.y0 (by rw [e, Nat.mul_zero])
theorem Is.fq {a b x y m n : Nat} (h : Is a b x y m n) (hm : m ≤ 64) (hn : n ≤ 64) : Fq a b := ⟨Nat.le_trans h.la hm, Nat.le_trans h.lb hn, h.b0, h.co⟩
theorem Is.self {p q m n : Nat} (h : Fq p q) (hm : ln p ≤ m) (hn : ln q ≤ n) : Is p q p q m n := ⟨red_self h.co, ⟨1, by decide, by omega, by omega⟩, h.q0, h.co, hm, hn⟩
theorem is_of {x y m n : Nat} (y0 : y ≠ 0) (hm : ln x ≤ m) (hn : ln y ≤ n) : ∃ a b, Is a b x y m n := by
  obtain ⟨g, a, b, g0, ex, ey, er, b0, co, la, lb⟩ := red_get x y y0
  exact ⟨a, b, er, ⟨g, g0, ex, ey⟩, y0, co, Nat.le_trans la hm, Nat.le_trans lb hn⟩
/-- One that is another's: the same. -/
theorem Is.same {a b x y m n c d x' y' m' n' : Nat} (h : Is a b x y m n) (h' : Is c d x' y' m' n') (e : x * y' = x' * y) : c = a ∧ d = b := by
  have k : red x y = red x' y' := by
    rw [← red_scale (x := x) (y := y) h'.y0, ← red_scale (x := x') (y := y') h.y0]
    rw [show y' * x = y * x' by grind, Nat.mul_comm y' y]
  rw [h.eq, h'.eq] at k
  injection k with k1 k2
  injection k2 with k2 k3
  exact ⟨k1.symm, k2.symm⟩
theorem Is.turn {a b x y m n x' y' : Nat} (h : Is a b x y m n) (y0 : y' ≠ 0) (e : x * y' = x' * y) : Is a b x' y' m n := by
  obtain ⟨c, d, k⟩ := is_of (x := x') (y := y') (m := ln x') (n := ln y') y0 (Nat.le_refl _) (Nat.le_refl _)
  obtain ⟨rfl, rfl⟩ := h.same k e
  exact ⟨k.eq, k.g, y0, k.co, h.la, h.lb⟩

section
variable {a b x y m n c d x' y' m' n' : Nat}
/-- The sum of two is that of what they are. -/
theorem Is.add (h : Is a b x y m n) (h' : Is c d x' y' m' n') (s : n + n' ≤ 64) (s1 : m + n' ≤ 63) (s2 : m' + n ≤ 63) : ∃ p q, addR a b c d = (p, q, 0) ∧ Is p q (x * y' + x' * y) (y * y') (max (m + n') (m' + n) + 1) (n + n') := by
  have l0 : ln (b * d) ≤ n + n' := ln_mul h.lb h'.lb
  have l1 : ln (a * d) ≤ m + n' := ln_mul h.la h'.lb
  have l2 : ln (c * b) ≤ m' + n := ln_mul h'.la h.lb
  have l3 : ln (a * d + c * b) ≤ max (m + n') (m' + n) + 1 := ln_add (Nat.le_trans l1 (Nat.le_max_left _ _)) (Nat.le_trans l2 (Nat.le_max_right _ _))
  obtain ⟨p, q, k⟩ := is_of (x := a * d + c * b) (y := b * d) (Nat.mul_ne_zero h.b0 h'.b0) l3 l0
  refine ⟨p, q, ?_, k.turn (Nat.mul_ne_zero h.y0 h'.y0) ?_⟩
  · rw [addR_yes (by omega) (by omega) (by omega) (by omega)]; exact k.eq
  · obtain ⟨g, _, rfl, rfl⟩ := h.g
    obtain ⟨g', _, rfl, rfl⟩ := h'.g
    grind
theorem Is.sub (h : Is a b x y m n) (h' : Is c d x' y' m' n') (s : n + n' ≤ 64) (s1 : m + n' ≤ 64) (s2 : m' + n ≤ 64) (le : x' * y ≤ x * y') : ∃ p q, subR a b c d = (p, q, 0) ∧ Is p q (x * y' - x' * y) (y * y') (m + n') (n + n') := by
  have l0 : ln (b * d) ≤ n + n' := ln_mul h.lb h'.lb
  have l1 : ln (a * d) ≤ m + n' := ln_mul h.la h'.lb
  have l2 : ln (c * b) ≤ m' + n := ln_mul h'.la h.lb
  have l3 : ln (a * d - c * b) ≤ m + n' := Nat.le_trans (ln_mono (Nat.sub_le _ _)) l1
  obtain ⟨p, q, k⟩ := is_of (x := a * d - c * b) (y := b * d) (Nat.mul_ne_zero h.b0 h'.b0) l3 l0
  have y0 := Nat.mul_ne_zero h.y0 h'.y0
  obtain ⟨g, g0, rfl, rfl⟩ := h.g
  obtain ⟨g', g0', rfl, rfl⟩ := h'.g
  have gg : g * g' ≠ 0 := Nat.mul_ne_zero g0 g0'
  have e1 : g * a * (g' * d) = g * g' * (a * d) := by grind
  have e2 : g' * c * (g * b) = g * g' * (c * b) := by grind
  have e3 : g * b * (g' * d) = g * g' * (b * d) := by grind
  rw [e1, e2] at le
  have le' : c * b ≤ a * d := Nat.le_of_mul_le_mul_left le (Nat.pos_of_ne_zero gg)
  refine ⟨p, q, ?_, k.turn y0 ?_⟩
  · rw [subR_yes (by omega) (by omega) (by omega) le']; exact k.eq
  · rw [e1, e2, e3, ← Nat.mul_sub]
    grind
theorem Is.low (h : Is a b x y m n) (h' : Is c d x' y' m' n') (s : n + n' ≤ 64) (s1 : m + n' ≤ 64) (s2 : m' + n ≤ 64) (lt : x * y' < x' * y) : subR a b c d = (0, 0, 1) := by
  have l0 : ln (b * d) ≤ n + n' := ln_mul h.lb h'.lb
  have l1 : ln (a * d) ≤ m + n' := ln_mul h.la h'.lb
  have l2 : ln (c * b) ≤ m' + n := ln_mul h'.la h.lb
  obtain ⟨g, g0, rfl, rfl⟩ := h.g
  obtain ⟨g', g0', rfl, rfl⟩ := h'.g
  have e1 : g * a * (g' * d) = g * g' * (a * d) := by grind
  have e2 : g' * c * (g * b) = g * g' * (c * b) := by grind
  rw [e1, e2] at lt
  exact subR_low (by omega) (by omega) (by omega) (Nat.lt_of_mul_lt_mul_left lt)
theorem Is.mul (h : Is a b x y m n) (h' : Is c d x' y' m' n') (s : n + n' ≤ 64) (s1 : m + m' ≤ 64) : ∃ p q, mulR a b c d = (p, q, 0) ∧ Is p q (x * x') (y * y') (m + m') (n + n') := by
  have l0 : ln (b * d) ≤ n + n' := ln_mul h.lb h'.lb
  have l1 : ln (a * c) ≤ m + m' := ln_mul h.la h'.la
  obtain ⟨p, q, k⟩ := is_of (x := a * c) (y := b * d) (Nat.mul_ne_zero h.b0 h'.b0) l1 l0
  refine ⟨p, q, ?_, k.turn (Nat.mul_ne_zero h.y0 h'.y0) ?_⟩
  · rw [mulR_yes (by omega) (by omega)]; exact k.eq
  · obtain ⟨g, _, rfl, rfl⟩ := h.g
    obtain ⟨g', _, rfl, rfl⟩ := h'.g
    grind
theorem Is.div (h : Is a b x y m n) (h' : Is c d x' y' m' n') (s : m + n' ≤ 64) (s1 : m' + n ≤ 64) (z : x' ≠ 0) : ∃ p q, divR a b c d = (p, q, 0) ∧ Is p q (x * y') (x' * y) (m + n') (m' + n) := by
  have l0 : ln (a * d) ≤ m + n' := ln_mul h.la h'.lb
  have l1 : ln (c * b) ≤ m' + n := ln_mul h'.la h.lb
  have y0 := Nat.mul_ne_zero z h.y0
  obtain ⟨g, g0, ex, ey⟩ := h.g
  obtain ⟨g', g0', ex', ey'⟩ := h'.g
  have c0 : c ≠ 0 := by rintro rfl; exact z (by rw [ex', Nat.mul_zero])
  obtain ⟨p, q, k⟩ := is_of (x := a * d) (y := c * b) (Nat.mul_ne_zero c0 h.b0) l0 l1
  refine ⟨p, q, ?_, k.turn y0 ?_⟩
  · rw [divR_yes c0 (by omega) (by omega)]; exact k.eq
  · subst ex ey ex' ey'
    grind
theorem sgn_scale {g u v : Nat} (g0 : g ≠ 0) : sgn (g * u) (g * v) = sgn u v :=
  sgn_congr (Nat.mul_lt_mul_left (Nat.pos_of_ne_zero g0)) (Nat.mul_lt_mul_left (Nat.pos_of_ne_zero g0))
theorem Is.cmp (h : Is a b x y m n) (h' : Is c d x' y' m' n') (s : m + n' ≤ 64) (s1 : m' + n ≤ 64) : cmpN a b c d = sgn (x * y') (x' * y) ∧ cmpE a b c d = 0 := by
  have l0 : ln (a * d) ≤ m + n' := ln_mul h.la h'.lb
  have l1 : ln (c * b) ≤ m' + n := ln_mul h'.la h.lb
  refine ⟨?_, cmpE_yes (by omega) (by omega)⟩
  rw [cmpN_yes (by omega) (by omega)]
  obtain ⟨g, g0, rfl, rfl⟩ := h.g
  obtain ⟨g', g0', rfl, rfl⟩ := h'.g
  have e1 : g * a * (g' * d) = g * g' * (a * d) := by grind
  have e2 : g' * c * (g * b) = g * g' * (c * b) := by grind
  rw [e1, e2, sgn_scale (Nat.mul_ne_zero g0 g0')]
end
/-- A fraction of at most 6 limbs, each. -/
structure F6 (p q : Nat) : Prop where
  f : Fq p q
  lp : ln p ≤ 6
  lq : ln q ≤ 6
theorem F6.is {p q : Nat} (h : F6 p q) : Is p q p q 6 6 := .self h.f h.lp h.lq

theorem laws_num {p q p' q' r s : Nat} (ha : F6 p q) (hb : F6 p' q') (hc : F6 r s) : ∃ x1 x2 y1 y2 z1 z2 m1 m2 u1 u2 v1 v2 t1 t2, addR p q p' q' = (x1, x2, 0) ∧ addR p' q' p q = (x1, x2, 0) ∧ Fq x1 x2 ∧ addR x1 x2 r s = (y1, y2, 0) ∧ addR p' q' r s = (z1, z2, 0) ∧ Fq z1 z2 ∧
    addR p q z1 z2 = (y1, y2, 0) ∧ mulR p q p' q' = (m1, m2, 0) ∧ mulR p' q' p q = (m1, m2, 0) ∧ mulR x1 x2 r s = (u1, u2, 0) ∧ mulR p q r s = (v1, v2, 0) ∧ Fq v1 v2 ∧ mulR p' q' r s = (t1, t2, 0) ∧ Fq t1 t2 ∧ addR v1 v2 t1 t2 = (u1, u2, 0) := by
  obtain ⟨x1, x2, ex, ix⟩ := ha.is.add hb.is (by decide) (by decide) (by decide)
  obtain ⟨x3, x4, ex', ix'⟩ := hb.is.add ha.is (by decide) (by decide) (by decide)
  obtain ⟨rfl, rfl⟩ := ix.same ix' (by grind)
  obtain ⟨y1, y2, ey, iy⟩ := ix.add hc.is (by decide) (by decide) (by decide)
  obtain ⟨z1, z2, ez, iz⟩ := hb.is.add hc.is (by decide) (by decide) (by decide)
  obtain ⟨y3, y4, ey', iy'⟩ := ha.is.add iz (by decide) (by decide) (by decide)
  obtain ⟨rfl, rfl⟩ := iy.same iy' (by grind)
  obtain ⟨m1, m2, em, im⟩ := ha.is.mul hb.is (by decide) (by decide)
  obtain ⟨m3, m4, em', im'⟩ := hb.is.mul ha.is (by decide) (by decide)
  obtain ⟨rfl, rfl⟩ := im.same im' (by grind)
  obtain ⟨u1, u2, eu, iu⟩ := ix.mul hc.is (by decide) (by decide)
  obtain ⟨v1, v2, ev, iv⟩ := ha.is.mul hc.is (by decide) (by decide)
  obtain ⟨t1, t2, et, it⟩ := hb.is.mul hc.is (by decide) (by decide)
  obtain ⟨u3, u4, eu', iu'⟩ := iv.add it (by decide) (by decide) (by decide)
  obtain ⟨rfl, rfl⟩ := iu.same iu' (by grind)
  exact ⟨_, _, _, _, _, _, _, _, _, _, _, _, _, _, ex, ex', ix.fq (by decide) (by decide), ey, ez, iz.fq (by decide) (by decide), ey', em, em', eu, ev, iv.fq (by decide) (by decide), et, it.fq (by decide) (by decide), eu'⟩
theorem back_num {p q p' q' : Nat} (ha : F6 p q) (hb : F6 p' q') : ∃ x1 x2 m1 m2, addR p q p' q' = (x1, x2, 0) ∧ Fq x1 x2 ∧ subR x1 x2 p' q' = (p, q, 0) ∧ mulR p q p' q' = (m1, m2, 0) ∧ Fq m1 m2 ∧ (p' ≠ 0 → divR m1 m2 p' q' = (p, q, 0)) ∧ (p' = 0 → x1 = p ∧ x2 = q) := by
  have q0 := hb.f.q0
  obtain ⟨x1, x2, ex, ix⟩ := ha.is.add hb.is (by decide) (by decide) (by decide)
  obtain ⟨d1, d2, ed, id⟩ := ix.sub hb.is (by decide) (by decide) (by decide) (by
    have : (p * q' + p' * q) * q' = p' * (q * q') + p * (q' * q') := by grind
    omega)
  obtain ⟨m1, m2, em, im⟩ := ha.is.mul hb.is (by decide) (by decide)
  have e : (p * q' + p' * q) * q' - p' * (q * q') = p * (q' * q') := by
    have : (p * q' + p' * q) * q' = p' * (q * q') + p * (q' * q') := by grind
    omega
  rw [e] at id
  obtain ⟨rfl, rfl⟩ := id.same ha.is (by grind)
  refine ⟨x1, x2, m1, m2, ex, ix.fq (by decide) (by decide), ed, em, im.fq (by decide) (by decide), fun z => ?_, fun z => ?_⟩
  · obtain ⟨e1, e2, ee, ie⟩ := im.div hb.is (by decide) (by decide) z
    obtain ⟨rfl, rfl⟩ := ie.same ha.is (by grind)
    exact ee
  · subst z
    obtain ⟨h1, h2⟩ := ix.same ha.is (by grind)
    exact ⟨h1.symm, h2.symm⟩
theorem middle_num {p q p' q' : Nat} (ha : F6 p q) (hb : F6 p' q') (le : p * q' ≤ p' * q) : ∃ s1 s2 m1 m2 x1 x2, addR p q p' q' = (s1, s2, 0) ∧ Fq s1 s2 ∧ divR s1 s2 2 1 = (m1, m2, 0) ∧ Fq m1 m2 ∧ subR m1 m2 p q = (x1, x2, 0) ∧ subR p' q' m1 m2 = (x1, x2, 0) := by
  have i2 : Is 2 1 2 1 1 1 := .self ⟨ln_tiny (by decide), ln_tiny (by decide), by decide, by decide⟩ (ln_le (by rw [B_eq]; decide)) (ln_le (by rw [B_eq]; decide))
  obtain ⟨d, hd⟩ := Nat.exists_eq_add_of_le le
  obtain ⟨s1, s2, es, is⟩ := ha.is.add hb.is (by decide) (by decide) (by decide)
  obtain ⟨m1, m2, em, im⟩ := is.div i2 (by decide) (by decide) (by decide)
  have e1 : (p * q' + p' * q) * 1 * q = p * (2 * (q * q')) + q * d := by grind
  have e2 : p' * (2 * (q * q')) = (p * q' + p' * q) * 1 * q' + q' * d := by grind
  obtain ⟨x1, x2, ex, ix⟩ := im.sub ha.is (by decide) (by decide) (by decide) (by omega)
  obtain ⟨y1, y2, ey, iy⟩ := hb.is.sub im (by decide) (by decide) (by decide) (by omega)
  rw [show (p * q' + p' * q) * 1 * q - p * (2 * (q * q')) = q * d by omega] at ix
  rw [show p' * (2 * (q * q')) - (p * q' + p' * q) * 1 * q' = q' * d by omega] at iy
  obtain ⟨rfl, rfl⟩ := ix.same iy (by grind)
  exact ⟨_, _, _, _, _, _, es, is.fq (by decide) (by decide), em, im.fq (by decide) (by decide), ex, ey⟩
theorem scale_num {p q N : Nat} (h : F6 p q) (n0 : N ≠ 0) : red (p * N) (q * N) = (p, q, 0) := by
  rw [Nat.mul_comm p, Nat.mul_comm q, red_scale n0]; exact red_self h.f.co
theorem same_num {p q p' q' : Nat} (ha : Fq p q) (hb : Fq p' q') : p * q' = p' * q ↔ p = p' ∧ q = q' := by
  refine ⟨fun e => ?_, fun ⟨a, b⟩ => by rw [a, b]⟩
  obtain ⟨a, b⟩ := (Is.self ha (Nat.le_refl _) (Nat.le_refl _)).same (Is.self hb (Nat.le_refl _) (Nat.le_refl _)) e
  exact ⟨a.symm, b.symm⟩
end Go.Proofs.YtdnikdocfbbkkaaDoor
namespace Go.Proofs.YtdnikdocfbbkkaaDoor
set_option linter.unusedVariables false

@[irreducible] def mant (b : Nat) : Nat := if b / 4503599627370496 = 0 then b % 4503599627370496 else b % 4503599627370496 + 4503599627370496
@[irreducible] def ex (b : Nat) : Nat := if b / 4503599627370496 = 0 then 1 else b / 4503599627370496
theorem mant_low {b : Nat} (h : b / 4503599627370496 = 0) : mant b = b % 4503599627370496 := by unfold mant; rw [if_pos h]
theorem mant_high {b : Nat} (h : b / 4503599627370496 ≠ 0) : mant b = b % 4503599627370496 + 4503599627370496 := by unfold mant; rw [if_neg h]
theorem ex_low {b : Nat} (h : b / 4503599627370496 = 0) : ex b = 1 := by unfold ex; rw [if_pos h]
theorem ex_high {b : Nat} (h : b / 4503599627370496 ≠ 0) : ex b = b / 4503599627370496 := by unfold ex; rw [if_neg h]
theorem mant_lt (b : Nat) : mant b < 9007199254740992 := by unfold mant; split <;> omega
theorem ex_pos (b : Nat) : 1 ≤ ex b := by unfold ex; split <;> omega
theorem ex_lt {b : Nat} (h : b < 9218868437227405312) : ex b ≤ 2046 := by unfold ex; split <;> omega
theorem fv_parts (b : Nat) : fv b = mant b * pw (ex b - 1) := by
  by_cases h : b / 4503599627370496 = 0
  · rw [fv_low h, mant_low h, ex_low h, Nat.sub_self, pw_zero, Nat.mul_one]
  · rw [fv_high h, mant_high h, ex_high h]
theorem fv_inf : fv 9218868437227405312 = pw 1024 * pw 1074 := by
  have e : (9218868437227405312 : Nat) / 4503599627370496 = 2047 := by decide
  rw [fv_high (by rw [e]; decide), e, show (9218868437227405312 : Nat) % 4503599627370496 = 0 by decide, ← pw_add, Nat.zero_add, show (4503599627370496 : Nat) = pw 52 by rw [pw_eq], ← pw_add]
theorem of_zero {b : Nat} (h : mant b = 0) : red (fv b) (pw 1074) = (0, 1, 0) := by
  rw [fv_parts, h, Nat.zero_mul]
  unfold red
  rw [Nat.gcd_zero_left, Nat.zero_div, Nat.div_self (pw_pos _)]
theorem of_high {b : Nat} (h : 1075 ≤ ex b) : red (fv b) (pw 1074) = (mant b * pw (ex b - 1075), 1, 0) := by
  have e : fv b = pw 1074 * (mant b * pw (ex b - 1075)) := by
    rw [fv_parts, show ex b - 1 = 1074 + (ex b - 1075) by omega, pw_add]
    generalize pw 1074 = t; generalize pw (ex b - 1075) = u; grind
  have := red_scale (k := pw 1074) (x := mant b * pw (ex b - 1075)) (y := 1) (Nat.ne_of_gt (pw_pos _))
  rw [Nat.mul_one] at this
  rw [e, this]
  exact red_self (Nat.gcd_one_right _)
theorem of_low {b : Nat} (h : ex b < 1075) : red (fv b) (pw 1074) = red (mant b) (pw (1075 - ex b)) := by
  have := ex_pos b
  rw [fv_parts, show (1074 : Nat) = (ex b - 1) + (1075 - ex b) by omega, pw_add, Nat.mul_comm (mant b)]
  exact red_scale (Nat.ne_of_gt (pw_pos _))
theorem ln_pw {n k : Nat} (h : n < 32 * k) : ln (pw n) ≤ k := by
  refine ln_le ?_
  rw [pw_eq, show B = 2 ^ 32 by rw [B_eq], ← Nat.pow_mul]
  exact Nat.pow_lt_pow_right (by decide) h
theorem ln_mant (b : Nat) : ln (mant b) ≤ 2 := ln_le (by have := mant_lt b; rw [B_eq]; omega)
/-- A fraction that a float64 is: x over y. -/
structure Of1 (b x y : Nat) : Prop where
  eq : red (fv b) (pw 1074) = (x, y, 0)
  g : x * pw 1074 = fv b * y
  y0 : y ≠ 0
  lx : ln x ≤ 33
  ly : ln y ≤ 34
theorem of1_mk {b x y : Nat} (h : red (fv b) (pw 1074) = (x, y, 0)) (lx : ln x ≤ 33) (ly : ln y ≤ 34) : Of1 b x y := by
  obtain ⟨g, a, c, g0, e1, e2, er, c0, co, l1, l2⟩ := red_get (fv b) (pw 1074) (Nat.ne_of_gt (pw_pos _))
  rw [h] at er
  injection er with k1 k2
  injection k2 with k2 k3
  subst k1 k2
  refine ⟨h, ?_, c0, lx, ly⟩
  rw [e1, e2]; grind
theorem Of1.fq {b x y : Nat} (h : Of1 b x y) : Fq x y := by
  obtain ⟨g, a, c, g0, e1, e2, er, c0, co, l1, l2⟩ := red_get (fv b) (pw 1074) (Nat.ne_of_gt (pw_pos _))
  rw [h.eq] at er
  injection er with k1 k2
  injection k2 with k2 k3
  subst k1 k2
  exact ⟨Nat.le_trans h.lx (by decide), Nat.le_trans h.ly (by decide), c0, co⟩
theorem of1_zero {b : Nat} (h : mant b = 0) : Of1 b 0 1 := of1_mk (of_zero h) (by rw [ln_zero]; decide) (Nat.le_trans (ln_le (k := 1) (by rw [B_eq]; decide)) (by decide))
theorem of1_high {b : Nat} (hb : b < 9218868437227405312) (h : 1075 ≤ ex b) : Of1 b (mant b * pw (ex b - 1075)) 1 :=
  of1_mk (of_high h) (Nat.le_trans (ln_mul (ln_mant b) (ln_pw (k := 31) (by have := ex_lt hb; omega))) (by decide)) (Nat.le_trans (ln_le (k := 1) (by rw [B_eq]; decide)) (by decide))
theorem of1_low {b : Nat} (h : ex b < 1075) : ∃ x y, red (mant b) (pw (1075 - ex b)) = (x, y, 0) ∧ Of1 b x y := by
  obtain ⟨g, a, c, g0, e1, e2, er, c0, co, l1, l2⟩ := red_get (mant b) (pw (1075 - ex b)) (Nat.ne_of_gt (pw_pos _))
  have := ex_pos b
  exact ⟨a, c, er, of1_mk ((of_low h).trans er) (Nat.le_trans l1 (Nat.le_trans (ln_mant b) (by decide))) (Nat.le_trans l2 (ln_pw (by omega)))⟩
/-- The middle: what it is compared with tells Bel. -/
theorem mid_cmp {p q b xa ya xb yb : Nat} (ha : xa * pw 1074 = fv b * ya) (hb : xb * pw 1074 = fv (b + 1) * yb) (a0 : ya ≠ 0) (b0 : yb ≠ 0) :
    sgn (p * (ya * yb * 2)) ((xa * yb + xb * ya) * q) = sgn (p * (2 * pw 1074)) (q * (fv b + fv (b + 1))) := by
  have t0 : pw 1074 ≠ 0 := Nat.ne_of_gt (pw_pos _)
  rw [← sgn_scale (g := pw 1074) (u := p * (ya * yb * 2)) t0, ← sgn_scale (g := ya * yb) (u := p * (2 * pw 1074)) (Nat.mul_ne_zero a0 b0)]
  generalize pw 1074 = t at *
  have e1 : t * (p * (ya * yb * 2)) = ya * yb * (p * (2 * t)) := by grind
  have e2 : t * ((xa * yb + xb * ya) * q) = ya * yb * (q * (fv b + fv (b + 1))) := by
    have : t * ((xa * yb + xb * ya) * q) = ((xa * t) * yb + (xb * t) * ya) * q := by grind
    rw [this, ha, hb]; grind
  rw [e1, e2]
theorem bel_sgn {p q b : Nat} {c : Int} (h : sgn (p * (2 * pw 1074)) (q * (fv b + fv (b + 1))) = c) : Bel p q b ↔ (c = -1 ∨ (c = 0 ∧ b % 2 = 0)) := by
  unfold Bel
  generalize p * (2 * pw 1074) = u at *
  generalize q * (fv b + fv (b + 1)) = v at *
  rcases Nat.lt_trichotomy u v with k | k | k
  · rw [sgn_lt k] at h; subst h; simp [k]
  · subst k; rw [sgn_eq] at h; subst h; simp
  · rw [sgn_gt k] at h; subst h; simp; omega
end Go.Proofs.YtdnikdocfbbkkaaDoor
