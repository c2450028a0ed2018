/- What the calls of rat answer, in plain numbers; the walks of Make, Whole, Text. -/
import Derived.Test.YtnacokogihanoaaDoorRC
import Derived.Laws.IdiomStrings
namespace Go.Proofs.YtnacokogihanoaaDoor
open Go.RowKit
set_option linter.unusedVariables false
set_option linter.unusedSimpArgs false

/-- Sum, difference, product, quotient: limbs above, below, and the error's number. -/
@[irreducible] def addR (p q p' q' : Nat) : Ans := if ln (q * q') ≤ 64 ∧ ln (p * q') ≤ 64 ∧ ln (p' * q) ≤ 64 ∧ ln (p * q' + p' * q) ≤ 64 then red (p * q' + p' * q) (q * q') else (0, 0, 6)
@[irreducible] def subR (p q p' q' : Nat) : Ans := if ln (q * q') ≤ 64 ∧ ln (p * q') ≤ 64 ∧ ln (p' * q) ≤ 64 then (if p' * q ≤ p * q' then red (p * q' - p' * q) (q * q') else (0, 0, 1)) else (0, 0, 6)
@[irreducible] def mulR (p q p' q' : Nat) : Ans := if ln (p * p') ≤ 64 ∧ ln (q * q') ≤ 64 then red (p * p') (q * q') else (0, 0, 6)
@[irreducible] def divR (p q p' q' : Nat) : Ans := if p' = 0 then (0, 0, 7) else if ln (p * q') ≤ 64 ∧ ln (p' * q) ≤ 64 then red (p * q') (p' * q) else (0, 0, 6)
@[irreducible] def cmpN (p q p' q' : Nat) : Int := if ln (p * q') ≤ 64 ∧ ln (p' * q) ≤ 64 then sgn (p * q') (p' * q) else 0
@[irreducible] def cmpE (p q p' q' : Nat) : Int := if ln (p * q') ≤ 64 ∧ ln (p' * q) ≤ 64 then 0 else 6

section
variable {A A' D D' : Option Addr} {n c n' c' m k m' k' : Nat} {p q p' q' : Nat} {w : World}
theorem ratAdd_any (ha : Lim w A n c (limbs p)) (ha' : Lim w A' n' c' (limbs q)) (hb : Lim w D m k (limbs p')) (hb' : Lim w D' m' k' (limbs q')) (f : Fq p q) (g : Fq p' q') : Calls Tryd.prog 37 #[.agg #[.slice A n c, .slice A' n' c'], .agg #[.slice D m k, .slice D' m' k']] w fun e w' => RetA3 (addR p q p' q') w e w' := by
  refine ratAdd_of ha ha' hb hb' fun W l1 l2 l3 l4 => ?_
  unfold addR
  by_cases h0 : ln (q * q') ≤ 64
  · by_cases h : ln (p * q') ≤ 64 ∧ ln (p' * q) ≤ 64
    · by_cases h3 : ln (p * q' + p' * q) ≤ 64
      · rw [if_pos ⟨h0, h.1, h.2, h3⟩]; exact joinedAdd_yes l1 l2 l3 l4 f g h0 h.1 h.2 h3
      · rw [if_neg fun z => h3 z.2.2.2]; exact joinedAdd_sum l1 l2 l3 l4 f g h0 h.1 h.2 h3
    · rw [if_neg fun z => h ⟨z.2.1, z.2.2.1⟩]; exact joinedAdd_big l1 l2 l3 l4 f g h0 h
  · rw [if_neg fun z => h0 z.1]; exact joinedAdd_den l1 l2 l3 l4 f g h0
theorem ratSub_any (ha : Lim w A n c (limbs p)) (ha' : Lim w A' n' c' (limbs q)) (hb : Lim w D m k (limbs p')) (hb' : Lim w D' m' k' (limbs q')) (f : Fq p q) (g : Fq p' q') : Calls Tryd.prog 38 #[.agg #[.slice A n c, .slice A' n' c'], .agg #[.slice D m k, .slice D' m' k']] w fun e w' => RetA3 (subR p q p' q') w e w' := by
  refine ratSub_of ha ha' hb hb' fun W l1 l2 l3 l4 => ?_
  unfold subR
  by_cases h0 : ln (q * q') ≤ 64
  · by_cases h : ln (p * q') ≤ 64 ∧ ln (p' * q) ≤ 64
    · rw [if_pos ⟨h0, h.1, h.2⟩]
      by_cases h3 : p' * q ≤ p * q'
      · rw [if_pos h3]; exact joinedSub_yes l1 l2 l3 l4 f g h0 h.1 h.2 h3
      · rw [if_neg h3]; exact joinedSub_low l1 l2 l3 l4 f g h0 h.1 h.2 (by omega)
    · rw [if_neg fun z => h ⟨z.2.1, z.2.2⟩]; exact joinedSub_big l1 l2 l3 l4 f g h0 h
  · rw [if_neg fun z => h0 z.1]; exact joinedSub_den l1 l2 l3 l4 f g h0
theorem ratMul_any (ha : Lim w A n c (limbs p)) (ha' : Lim w A' n' c' (limbs q)) (hb : Lim w D m k (limbs p')) (hb' : Lim w D' m' k' (limbs q')) (f : Fq p q) (g : Fq p' q') : Calls Tryd.prog 39 #[.agg #[.slice A n c, .slice A' n' c'], .agg #[.slice D m k, .slice D' m' k']] w fun e w' => RetA3 (mulR p q p' q') w e w' := by
  unfold mulR
  by_cases h : ln (p * p') ≤ 64 ∧ ln (q * q') ≤ 64
  · rw [if_pos h]; exact ratMul_yes ha ha' hb hb' f g h.1 h.2
  · rw [if_neg h]; exact ratMul_big ha ha' hb hb' f g h
theorem ratDiv_any (ha : Lim w A n c (limbs p)) (ha' : Lim w A' n' c' (limbs q)) (hb : Lim w D m k (limbs p')) (hb' : Lim w D' m' k' (limbs q')) (f : Fq p q) (g : Fq p' q') : Calls Tryd.prog 40 #[.agg #[.slice A n c, .slice A' n' c'], .agg #[.slice D m k, .slice D' m' k']] w fun e w' => RetA3 (divR p q p' q') w e w' := by
  unfold divR
  by_cases z : p' = 0
  · subst z
    have hm := hb.len
    rw [limbs_zero] at hm
    obtain rfl : m = 0 := hm.symm
    rw [if_pos rfl]; exact ratDiv_zero ha ha' hb hb' f g
  · rw [if_neg z]
    by_cases h : ln (p * q') ≤ 64 ∧ ln (p' * q) ≤ 64
    · rw [if_pos h]; exact ratDiv_yes ha ha' hb hb' f g z h.1 h.2
    · rw [if_neg h]; exact ratDiv_big ha ha' hb hb' f g z h
theorem ratCmp_any (ha : Lim w A n c (limbs p)) (ha' : Lim w A' n' c' (limbs q)) (hb : Lim w D m k (limbs p')) (hb' : Lim w D' m' k' (limbs q')) (f : Fq p q) (g : Fq p' q') : Calls Tryd.prog 41 #[.agg #[.slice A n c, .slice A' n' c'], .agg #[.slice D m k, .slice D' m' k']] w fun e w' => e = .returned (.tuple #[.int .i64 (cmpN p q p' q'), .int .i64 (cmpE p q p' q')]) ∧ Below w.heap.size w w' := by
  unfold cmpN cmpE
  by_cases h : ln (p * q') ≤ 64 ∧ ln (p' * q) ≤ 64
  · rw [if_pos h, if_pos h]; exact ratCmp_yes ha ha' hb hb' f g h.1 h.2
  · rw [if_neg h, if_neg h]; exact ratCmp_big ha ha' hb hb' f g h
end
theorem ratAdd_bad {A A' D D' : Option Addr} {n c n' c' m k m' k' : Nat} {xs ys us vs : List Nat} {w : World} (ha : Lim w A n c xs) (ha' : Lim w A' n' c' ys) (hb : Lim w D m k us) (hb' : Lim w D' m' k' vs) (f : ¬ (Fr xs ys ∧ Fr us vs)) : Calls Tryd.prog 37 #[.agg #[.slice A n c, .slice A' n' c'], .agg #[.slice D m k, .slice D' m' k']] w fun e w' => RetA3 (0, 0, 1) w e w' :=
  ratAdd_of ha ha' hb hb' fun W l1 l2 l3 l4 => joinedAdd_bad l1 l2 l3 l4 f
theorem ratSub_bad {A A' D D' : Option Addr} {n c n' c' m k m' k' : Nat} {xs ys us vs : List Nat} {w : World} (ha : Lim w A n c xs) (ha' : Lim w A' n' c' ys) (hb : Lim w D m k us) (hb' : Lim w D' m' k' vs) (f : ¬ (Fr xs ys ∧ Fr us vs)) : Calls Tryd.prog 38 #[.agg #[.slice A n c, .slice A' n' c'], .agg #[.slice D m k, .slice D' m' k']] w fun e w' => RetA3 (0, 0, 1) w e w' :=
  ratSub_of ha ha' hb hb' fun W l1 l2 l3 l4 => joinedSub_bad l1 l2 l3 l4 f

theorem tens_len (n : Nat) : ∀ k, n < 10 ^ k → (tens n).length ≤ k := by
  induction n using Nat.strongRecOn with
  | _ n ih =>
    intro k hk
    by_cases h : n = 0
    · rw [h, tens_zero]; exact Nat.zero_le _
    · rw [tens_pos h, List.length_cons]
      cases k with
      | zero => simp at hk; exact absurd hk h
      | succ k =>
        have := ih (n / 10) (Nat.div_lt_self (Nat.pos_of_ne_zero h) (by decide)) k ((Nat.div_lt_iff_lt_mul (by decide)).2 (by rw [Nat.pow_succ] at hk; exact hk))
        omega
theorem dtext_len {a : Nat} (h : ln a ≤ 64) : (dtext a).length ≤ 1000 := by
  by_cases z : a = 0
  · rw [z, dtext_zero]; simp
  · rw [dtext_pos z, List.length_reverse, List.length_map]
    have := tens_len a _ (lt_630 h)
    omega
theorem cat3 (P Q : List UInt8) : (⟨P.toArray⟩ ++ ⟨#[47]⟩ ++ ⟨Q.toArray⟩ : ByteArray) = ⟨(P ++ 47 :: Q).toArray⟩ := by
  apply ByteArray.ext
  rw [ByteArray.data_append, ByteArray.data_append]
  simp
theorem keep_drew {w : World} {p : Addr} {v : Value} (h : w.cell? p = some v) : w.drew.cell? p = some v := h
theorem lim_z (w : World) : Lim w none 0 0 (limbs 0) := by rw [limbs_zero]; exact Lim.none_ _ _ _ (by decide)
set_option maxHeartbeats 1000000 in
set_option maxRecDepth 100000 in
theorem make_bad {A A' : Option Addr} {n c n' c' : Nat} {xs ys : List Nat} {w : World} (ha : Lim w A n c xs) (hb : Lim w A' n' c' ys) (h : NoTwo xs ys) : Calls Tryd.prog 47 #[.slice A n c, .slice A' n' c'] w fun e w' => RetA3 (0, 0, 1) w e w' := by
  have S := (((Fs.start w).put ha).put hb).box (.slice none 0 0) (.slice none 0 0)
  clear ha hb
  by_cases ka : Nt xs
  · have kb : ¬ Nt ys := fun z => h ⟨ka, z⟩
    go_enter Tryd.func47, Tryd.ntmps47
    go_wp2_with fail
    generalize w.alloc (.cells #[.slice none 0 0, .slice none 0 0] 50) = w0 at *
    have e1 := ka.eq S.lie.2.1.lo
    have K := right_yes (e1 ▸ S.lie.2.1) (by unfold ln; rw [← e1]; exact ka.1)
    clear e1
    refine K.mono ?_
    clear K
    rintro e w' ⟨rfl, rfl⟩
    go_wp2_with fail
    refine (right_no S.lie.1 kb).mono ?_
    rintro e w' ⟨rfl, rfl⟩
    obtain ⟨⟨c0, c1, m0, m1, sz⟩, _⟩ := S.cel
    go_wp2_with fail
    go_light
    exact bodyPost_ret (v := .tuple #[.agg #[.slice none 0 0, .slice none 0 0], .int .i64 1]) (by simp [results, Tryd.results47, go_sem, c0, c1]) rfl ⟨_, _, _, _, _, _, rfl, lim_z _, lim_z _, (S.bl.setCell (Nat.le_refl _) _).setCell (Nat.le_refl _) _⟩
  · go_enter Tryd.func47, Tryd.ntmps47
    go_wp2_with fail
    generalize w.alloc (.cells #[.slice none 0 0, .slice none 0 0] 50) = w0 at *
    refine (right_no S.lie.2.1 ka).mono ?_
    rintro e w' ⟨rfl, rfl⟩
    obtain ⟨⟨c0, c1, m0, m1, sz⟩, _⟩ := S.cel
    go_wp2_with fail
    go_light
    exact bodyPost_ret (v := .tuple #[.agg #[.slice none 0 0, .slice none 0 0], .int .i64 1]) (by simp [results, Tryd.results47, go_sem, c0, c1]) rfl ⟨_, _, _, _, _, _, rfl, lim_z _, lim_z _, (S.bl.setCell (Nat.le_refl _) _).setCell (Nat.le_refl _) _⟩
set_option maxHeartbeats 1000000 in
set_option maxRecDepth 100000 in
theorem make_zero {A A' : Option Addr} {n c c' a : Nat} {w : World} (ha : Lim w A n c (limbs a)) (hb : Lim w A' 0 c' (limbs 0)) (la : ln a ≤ 64) : Calls Tryd.prog 47 #[.slice A n c, .slice A' 0 c'] w fun e w' => RetA3 (0, 0, 7) w e w' := by
  have S := (((Fs.start w).put ha).put hb).box (.slice none 0 0) (.slice none 0 0)
  clear ha hb
  go_enter Tryd.func47, Tryd.ntmps47
  go_wp2_with fail
  generalize w.alloc (.cells #[.slice none 0 0, .slice none 0 0] 50) = w0 at *
  refine (right_yes S.lie.2.1 la).mono ?_
  rintro e w' ⟨rfl, rfl⟩
  go_wp2_with fail
  refine (right_yes S.lie.1 (by rw [ln_zero]; decide)).mono ?_
  rintro e w' ⟨rfl, rfl⟩
  obtain ⟨⟨c0, c1, m0, m1, sz⟩, _⟩ := S.cel
  go_wp2_with fail
  go_light
  exact bodyPost_ret (v := .tuple #[.agg #[.slice none 0 0, .slice none 0 0], .int .i64 7]) (by simp [results, Tryd.results47, go_sem, c0, c1]) rfl ⟨_, _, _, _, _, _, rfl, lim_z _, lim_z _, (S.bl.setCell (Nat.le_refl _) _).setCell (Nat.le_refl _) _⟩
set_option maxHeartbeats 1000000 in
set_option maxRecDepth 100000 in
theorem make_yes {A A' : Option Addr} {n c n' c' a b : Nat} {w : World} (ha : Lim w A n c (limbs a)) (hb : Lim w A' n' c' (limbs b)) (la : ln a ≤ 64) (lb : ln b ≤ 64) (b0 : b ≠ 0) : Calls Tryd.prog 47 #[.slice A n c, .slice A' n' c'] w fun e w' => RetA3 (red a b) w e w' := by
  have hm := hb.len
  rw [limbs_length] at hm
  have hm0 := ln_pos b0
  have i0 : ((n' : Int) == 0) = false := by simp; omega
  clear hm hm0
  have S := (((Fs.start w).put ha).put hb).box (.slice none 0 0) (.slice none 0 0)
  clear ha hb
  go_enter Tryd.func47, Tryd.ntmps47
  go_wp2_with fail
  generalize w.alloc (.cells #[.slice none 0 0, .slice none 0 0] 50) = w0 at *
  refine (right_yes S.lie.2.1 la).mono ?_
  rintro e w' ⟨rfl, rfl⟩
  go_wp2_with fail
  refine (right_yes S.lie.1 lb).mono ?_
  rintro e w' ⟨rfl, rfl⟩
  go_wp2_with fail
  refine (reduced_any S.lie.2.1 S.lie.1 la lb b0).mono ?_
  rintro e w1 ⟨A1, n1, c1', A2, n2, c2', rfl, L1, L2, B1⟩
  have S := ((S.next B1).put L1).put L2
  clear B1 L1 L2
  obtain ⟨⟨c0, c1, m0, m1, sz⟩, _⟩ := S.cel
  go_wp2_with fail
  go_light
  exact bodyPost_ret (v := .tuple #[.agg #[.slice A1 n1 c1', .slice A2 n2 c2'], .int .i64 0]) (by simp [results, Tryd.results47, go_sem, c0, c1]) rfl ⟨_, _, _, _, _, _, rfl, S.lie.2.1.put2 c0 c1 _ _, S.lie.1.put2 c0 c1 _ _, (S.bl.setCell (Nat.le_refl _) _).setCell (Nat.le_refl _) _⟩
set_option maxHeartbeats 1000000 in
set_option maxRecDepth 100000 in
theorem whole_r (x : Nat) (hx : x < 18446744073709551616) (w : World) : Calls Tryd.prog 48 #[.int .u64 (x : Int)] w fun e w' => RetR x 1 w e w' := by
  have K := Lib.hid (of_any x hx)
  have K1 : Hid (∀ W, Calls Tryd.prog 23 #[.int .u64 1] W fun e w' => RetN 1 W e w') := fun W => of_any 1 (by decide) W
  have S := (Fs.start w).box (.slice none 0 0) (.slice none 0 0)
  go_enter Tryd.func48, Tryd.ntmps48
  go_wp2_with fail
  generalize w.alloc (.cells #[.slice none 0 0, .slice none 0 0] 50) = w0 at *
  refine (K.out _).mono ?_
  rintro e w1 ⟨A1, n1, c1', rfl, L1, B1⟩
  have S := (S.next B1).put L1
  clear B1 L1
  go_wp2_with fail
  refine (K1.out _).mono ?_
  rintro e w2 ⟨A2, n2, c2', rfl, L2, B2⟩
  have S := (S.next B2).put L2
  clear B2 L2
  obtain ⟨⟨c0, c1, m0, m1, sz⟩, _⟩ := S.cel
  go_wp2_with fail
  go_light
  exact bodyPost_ret (v := .agg #[.slice A1 n1 c1', .slice A2 n2 c2']) (by simp [results, Tryd.results48, go_sem, c0, c1]) rfl ⟨_, _, _, _, _, _, rfl, S.lie.2.1.put2 c0 c1 _ _, S.lie.1.put2 c0 c1 _ _, (S.bl.setCell (Nat.le_refl _) _).setCell (Nat.le_refl _) _⟩
set_option maxHeartbeats 1000000 in
set_option maxRecDepth 100000 in
theorem ratText_no {A A' : Option Addr} {n c n' c' : Nat} {xs ys : List Nat} {w : World} (ha : Lim w A n c xs) (hb : Lim w A' n' c' ys) (f : ¬ Fr xs ys) : Calls Tryd.prog 43 #[.agg #[.slice A n c, .slice A' n' c']] w fun e w' => e = .returned (.string ⟨#[]⟩) ∧ Below w.heap.size w w' := by
  have S := (((Fs.start w).put ha).put hb).box (.slice A n c) (.slice A' n' c')
  clear ha hb
  go_enter Tryd.func43, Tryd.ntmps43
  go_wp2_with fail
  generalize w.alloc (.cells #[.slice A n c, .slice A' n' c'] 50) = w0 at *
  have K := ratRight_any S.lie.2.1 S.lie.1
  rw [frB_no f] at K
  refine K.mono ?_
  clear K
  rintro e w1 ⟨rfl, B1⟩
  have S := S.next B1
  clear B1
  go_wp2_with fail
  go_ret
  exact ⟨rfl, S.bl⟩
set_option maxHeartbeats 2000000 in
set_option maxRecDepth 100000 in
theorem ratText_yes {A A' : Option Addr} {n c n' c' p q : Nat} {w : World} (ha : Lim w A n c (limbs p)) (hb : Lim w A' n' c' (limbs q)) (f : Fq p q) : Calls Tryd.prog 43 #[.agg #[.slice A n c, .slice A' n' c']] w fun e w' => e = .returned (.string ⟨(dtext p ++ 47 :: dtext q).toArray⟩) ∧ Below w.heap.size w w' := by
  have S := (((Fs.start w).put ha).put hb).box (.slice A n c) (.slice A' n' c')
  clear ha hb
  go_enter Tryd.func43, Tryd.ntmps43
  go_wp2_with fail
  generalize w.alloc (.cells #[.slice A n c, .slice A' n' c'] 50) = w0 at *
  have K := ratRight_any S.lie.2.1 S.lie.1
  rw [frB_yes f.fr] at K
  refine K.mono ?_
  clear K
  rintro e w1 ⟨rfl, B1⟩
  have S := S.next B1
  clear B1
  go_upto_region 3 with fail
  have LA := S.lie.2.1
  have LB := S.lie.1
  have lp := f.lp; have lq := f.lq
  obtain ⟨P, hP⟩ : ∃ P, dtext p = P := ⟨_, rfl⟩
  obtain ⟨Q, hQ⟩ : ∃ Q, dtext q = Q := ⟨_, rfl⟩
  have sP : P.length ≤ 1000 := by rw [← hP]; exact dtext_len lp
  have sQ : Q.length ≤ 1000 := by rw [← hQ]; exact dtext_len lq
  have t1 : ¬ 9223372036854775807 < P.length + 1 := by omega
  have t2 : ¬ 9223372036854775807 < P.length + 1 + Q.length := by omega
  have TA : ∀ W, Below w1.heap.size w1 W → Calls Tryd.prog 21 #[.slice A n c] W fun e w' => e = .returned (.string ⟨P.toArray⟩) ∧ Below W.heap.size W w' := fun W h => hP ▸ text_any (LA.next h) lp
  have TB : ∀ W, Below w1.heap.size w1 W → Calls Tryd.prog 21 #[.slice A' n' c'] W fun e w' => e = .returned (.string ⟨Q.toArray⟩) ∧ Below W.heap.size W w' := fun W h => hQ ▸ text_any (LB.next h) lq
  obtain ⟨⟨c0, c1, -⟩, -⟩ := S.cel
  have TA := Lib.hid TA; have TB := Lib.hid TB
  have SB := Lib.hid S.bl
  have HP := Lib.hid hP; have HQ := Lib.hid hQ
  clear S f LA LB lp lq sP sQ hP hQ
  go_region_held3 (fun w' => w'.cell? ⟨w.heap.size, 0, none⟩ = some (.slice A n c) ∧ w'.cell? ⟨w.heap.size, 1, none⟩ = some (.slice A' n' c'))
    ((refine ⟨?_, ?_⟩ <;> (repeat (first | with_reducible exact c0 | with_reducible exact c1 | with_reducible refine keep_drew ?_ | with_reducible refine keep_cell (by assumption) ?_))))
    (first
      | (go_at_call 21; (first | with_reducible refine (TA.out _ ?_).mono ?_ | with_reducible refine (TB.out _ ?_).mono ?_); (· repeat (first | with_reducible exact Below.refl _ _ | with_reducible exact (Below.refl _ _).drew | refine below_step ?_ (by assumption))); rintro e z ⟨rfl, Bz⟩))
  go_wp2_with fail
  go_ret
  refine ⟨?_, ?_⟩
  · rw [HP.out, HQ.out, ← cat3]; rfl
  · repeat (first | with_reducible exact SB.out.drew | refine below_step ?_ (by assumption))

theorem addR_yes {p q p' q' : Nat} (h0 : ln (q * q') ≤ 64) (h1 : ln (p * q') ≤ 64) (h2 : ln (p' * q) ≤ 64) (h3 : ln (p * q' + p' * q) ≤ 64) : addR p q p' q' = red (p * q' + p' * q) (q * q') := by unfold addR; rw [if_pos ⟨h0, h1, h2, h3⟩]
theorem subR_yes {p q p' q' : Nat} (h0 : ln (q * q') ≤ 64) (h1 : ln (p * q') ≤ 64) (h2 : ln (p' * q) ≤ 64) (h3 : p' * q ≤ p * q') : subR p q p' q' = red (p * q' - p' * q) (q * q') := by unfold subR; rw [if_pos ⟨h0, h1, h2⟩, if_pos h3]
theorem subR_low {p q p' q' : Nat} (h0 : ln (q * q') ≤ 64) (h1 : ln (p * q') ≤ 64) (h2 : ln (p' * q) ≤ 64) (h3 : p * q' < p' * q) : subR p q p' q' = (0, 0, 1) := by unfold subR; rw [if_pos ⟨h0, h1, h2⟩, if_neg (by omega)]
theorem mulR_yes {p q p' q' : Nat} (h0 : ln (p * p') ≤ 64) (h1 : ln (q * q') ≤ 64) : mulR p q p' q' = red (p * p') (q * q') := by unfold mulR; rw [if_pos ⟨h0, h1⟩]
theorem divR_zero {p q q' : Nat} : divR p q 0 q' = (0, 0, 7) := by unfold divR; rw [if_pos rfl]
theorem divR_yes {p q p' q' : Nat} (z : p' ≠ 0) (h0 : ln (p * q') ≤ 64) (h1 : ln (p' * q) ≤ 64) : divR p q p' q' = red (p * q') (p' * q) := by unfold divR; rw [if_neg z, if_pos ⟨h0, h1⟩]
theorem cmpN_yes {p q p' q' : Nat} (h0 : ln (p * q') ≤ 64) (h1 : ln (p' * q) ≤ 64) : cmpN p q p' q' = sgn (p * q') (p' * q) := by unfold cmpN; rw [if_pos ⟨h0, h1⟩]
theorem cmpE_yes {p q p' q' : Nat} (h0 : ln (p * q') ≤ 64) (h1 : ln (p' * q) ≤ 64) : cmpE p q p' q' = 0 := by unfold cmpE; rw [if_pos ⟨h0, h1⟩]
end Go.Proofs.YtnacokogihanoaaDoor
