/- What the calls of rat answer, in plain numbers; the walks of Make, Whole, Text. The document's product of two numbers of 64 bits; its Cmp of items. The document's May, All, Small, Same. A row of items that a call makes of its own; append. The document's Sort. The walk of awake: the fixed answer of the stage. -/
import Derived.Test.YthollkngfibgaaaDoorJ05
import Derived.Laws.IdiomStrings
import Derived.Test.YthollkngfibgaaaDoorJ00
import Derived.Test.YthollkngfibgaaaDoorJ01
import Derived.Deep.RegionHeld3
import Derived.Laws.Cover1
import Derived.Deep.LoopGhost
import Derived.Deep.Light
import Derived.Laws.AppendOwn
import Derived.Laws.AppendOwnNone
namespace Go.Proofs.YthollkngfibgaaaDoor
open Go.RowKit
set_option linter.unusedVariables false
set_option linter.unusedSimpArgs false

/-- Sum, difference, product, quotient: limbs above, below, and the error's number. -/
@[irreducible] def addR (p q p' q' : Nat) : Ans := if ln (q * q') ≤ 64 ∧ ln (p * q') ≤ 64 ∧ ln (p' * q) ≤ 64 ∧ ln (p * q' + p' * q) ≤ 64 then red (p * q' + p' * q) (q * q') else (0, 0, 6)
@[irreducible] def subR (p q p' q' : Nat) : Ans := if ln (q * q') ≤ 64 ∧ ln (p * q') ≤ 64 ∧ ln (p' * q) ≤ 64 then (if p' * q ≤ p * q' then red (p * q' - p' * q) (q * q') else (0, 0, 1)) else (0, 0, 6)
@[irreducible] def mulR (p q p' q' : Nat) : Ans := if ln (p * p') ≤ 64 ∧ ln (q * q') ≤ 64 then red (p * p') (q * q') else (0, 0, 6)
@[irreducible] def divR (p q p' q' : Nat) : Ans := if p' = 0 then (0, 0, 7) else if ln (p * q') ≤ 64 ∧ ln (p' * q) ≤ 64 then red (p * q') (p' * q) else (0, 0, 6)
@[irreducible] def cmpN (p q p' q' : Nat) : Int := if ln (p * q') ≤ 64 ∧ ln (p' * q) ≤ 64 then sgn (p * q') (p' * q) else 0
@[irreducible] def cmpE (p q p' q' : Nat) : Int := if ln (p * q') ≤ 64 ∧ ln (p' * q) ≤ 64 then 0 else 6

section
variable {A A' D D' : Option Addr} {n c n' c' m k m' k' : Nat} {p q p' q' : Nat} {w : World}
theorem ratCmp_any (ha : Lim w A n c (limbs p)) (ha' : Lim w A' n' c' (limbs q)) (hb : Lim w D m k (limbs p')) (hb' : Lim w D' m' k' (limbs q')) (f : Fq p q) (g : Fq p' q') : Calls Tryd.prog 23 #[.agg #[.slice A n c, .slice A' n' c'], .agg #[.slice D m k, .slice D' m' k']] w fun e w' => e = .returned (.tuple #[.int .i64 (cmpN p q p' q'), .int .i64 (cmpE p q p' q')]) ∧ Below w.heap.size w w' := by
  unfold cmpN cmpE
  by_cases h : ln (p * q') ≤ 64 ∧ ln (p' * q) ≤ 64
  · rw [if_pos h, if_pos h]; exact ratCmp_yes ha ha' hb hb' f g h.1 h.2
  · rw [if_neg h, if_neg h]; exact ratCmp_big ha ha' hb hb' f g h
end
theorem tens_len (n : Nat) : ∀ k, n < 10 ^ k → (tens n).length ≤ k := by
  induction n using Nat.strongRecOn with
  | _ n ih =>
    intro k hk
    by_cases h : n = 0
    · rw [h, tens_zero]; exact Nat.zero_le _
    · rw [tens_pos h, List.length_cons]
      cases k with
      | zero => simp at hk; exact absurd hk h
      | succ k =>
        have := ih (n / 10) (Nat.div_lt_self (Nat.pos_of_ne_zero h) (by decide)) k ((Nat.div_lt_iff_lt_mul (by decide)).2 (by rw [Nat.pow_succ] at hk; exact hk))
        omega
theorem dtext_len {a : Nat} (h : ln a ≤ 64) : (dtext a).length ≤ 1000 := by
  by_cases z : a = 0
  · rw [z, dtext_zero]; simp
  · rw [dtext_pos z, List.length_reverse, List.length_map]
    have := tens_len a _ (lt_630 h)
    omega
theorem cat3 (P Q : List UInt8) : (⟨P.toArray⟩ ++ ⟨#[47]⟩ ++ ⟨Q.toArray⟩ : ByteArray) = ⟨(P ++ 47 :: Q).toArray⟩ := by
  apply ByteArray.ext
  rw [ByteArray.data_append, ByteArray.data_append]
  simp
theorem keep_drew {w : World} {p : Addr} {v : Value} (h : w.cell? p = some v) : w.drew.cell? p = some v := h
theorem lim_z (w : World) : Lim w none 0 0 (limbs 0) := by rw [limbs_zero]; exact Lim.none_ _ _ _ (by decide)
set_option maxHeartbeats 1000000 in
set_option maxRecDepth 100000 in
theorem make_bad {A A' : Option Addr} {n c n' c' : Nat} {xs ys : List Nat} {w : World} (ha : Lim w A n c xs) (hb : Lim w A' n' c' ys) (h : NoTwo xs ys) : Calls Tryd.prog 25 #[.slice A n c, .slice A' n' c'] w fun e w' => RetA3 (0, 0, 1) w e w' := by
  have S := (((Fs.start w).put ha).put hb).box (.slice none 0 0) (.slice none 0 0)
  clear ha hb
  by_cases ka : Nt xs
  · have kb : ¬ Nt ys := fun z => h ⟨ka, z⟩
    go_enter Tryd.func25, Tryd.ntmps25
    go_wp2_with fail
    generalize w.alloc (.cells #[.slice none 0 0, .slice none 0 0] 30) = w0 at *
    have e1 := ka.eq S.lie.2.1.lo
    have K := right_yes (e1 ▸ S.lie.2.1) (by unfold ln; rw [← e1]; exact ka.1)
    clear e1
    refine K.mono ?_
    clear K
    rintro e w' ⟨rfl, rfl⟩
    go_wp2_with fail
    refine (right_no S.lie.1 kb).mono ?_
    rintro e w' ⟨rfl, rfl⟩
    obtain ⟨⟨c0, c1, m0, m1, sz⟩, _⟩ := S.cel
    go_wp2_with fail
    go_light
    exact bodyPost_ret (v := .tuple #[.agg #[.slice none 0 0, .slice none 0 0], .int .i64 1]) (by simp [results, Tryd.results25, go_sem, c0, c1]) rfl ⟨_, _, _, _, _, _, rfl, lim_z _, lim_z _, (S.bl.setCell (Nat.le_refl _) _).setCell (Nat.le_refl _) _⟩
  · go_enter Tryd.func25, Tryd.ntmps25
    go_wp2_with fail
    generalize w.alloc (.cells #[.slice none 0 0, .slice none 0 0] 30) = w0 at *
    refine (right_no S.lie.2.1 ka).mono ?_
    rintro e w' ⟨rfl, rfl⟩
    obtain ⟨⟨c0, c1, m0, m1, sz⟩, _⟩ := S.cel
    go_wp2_with fail
    go_light
    exact bodyPost_ret (v := .tuple #[.agg #[.slice none 0 0, .slice none 0 0], .int .i64 1]) (by simp [results, Tryd.results25, go_sem, c0, c1]) rfl ⟨_, _, _, _, _, _, rfl, lim_z _, lim_z _, (S.bl.setCell (Nat.le_refl _) _).setCell (Nat.le_refl _) _⟩
set_option maxHeartbeats 1000000 in
set_option maxRecDepth 100000 in
theorem make_zero {A A' : Option Addr} {n c c' a : Nat} {w : World} (ha : Lim w A n c (limbs a)) (hb : Lim w A' 0 c' (limbs 0)) (la : ln a ≤ 64) : Calls Tryd.prog 25 #[.slice A n c, .slice A' 0 c'] w fun e w' => RetA3 (0, 0, 7) w e w' := by
  have S := (((Fs.start w).put ha).put hb).box (.slice none 0 0) (.slice none 0 0)
  clear ha hb
  go_enter Tryd.func25, Tryd.ntmps25
  go_wp2_with fail
  generalize w.alloc (.cells #[.slice none 0 0, .slice none 0 0] 30) = w0 at *
  refine (right_yes S.lie.2.1 la).mono ?_
  rintro e w' ⟨rfl, rfl⟩
  go_wp2_with fail
  refine (right_yes S.lie.1 (by rw [ln_zero]; decide)).mono ?_
  rintro e w' ⟨rfl, rfl⟩
  obtain ⟨⟨c0, c1, m0, m1, sz⟩, _⟩ := S.cel
  go_wp2_with fail
  go_light
  exact bodyPost_ret (v := .tuple #[.agg #[.slice none 0 0, .slice none 0 0], .int .i64 7]) (by simp [results, Tryd.results25, go_sem, c0, c1]) rfl ⟨_, _, _, _, _, _, rfl, lim_z _, lim_z _, (S.bl.setCell (Nat.le_refl _) _).setCell (Nat.le_refl _) _⟩
set_option maxHeartbeats 1000000 in
set_option maxRecDepth 100000 in
theorem make_yes {A A' : Option Addr} {n c n' c' a b : Nat} {w : World} (ha : Lim w A n c (limbs a)) (hb : Lim w A' n' c' (limbs b)) (la : ln a ≤ 64) (lb : ln b ≤ 64) (b0 : b ≠ 0) : Calls Tryd.prog 25 #[.slice A n c, .slice A' n' c'] w fun e w' => RetA3 (red a b) w e w' := by
  have hm := hb.len
  rw [limbs_length] at hm
  have hm0 := ln_pos b0
  have i0 : ((n' : Int) == 0) = false := by simp; omega
  clear hm hm0
  have S := (((Fs.start w).put ha).put hb).box (.slice none 0 0) (.slice none 0 0)
  clear ha hb
  go_enter Tryd.func25, Tryd.ntmps25
  go_wp2_with fail
  generalize w.alloc (.cells #[.slice none 0 0, .slice none 0 0] 30) = w0 at *
  refine (right_yes S.lie.2.1 la).mono ?_
  rintro e w' ⟨rfl, rfl⟩
  go_wp2_with fail
  refine (right_yes S.lie.1 lb).mono ?_
  rintro e w' ⟨rfl, rfl⟩
  go_wp2_with fail
  refine (reduced_any S.lie.2.1 S.lie.1 la lb b0).mono ?_
  rintro e w1 ⟨A1, n1, c1', A2, n2, c2', rfl, L1, L2, B1⟩
  have S := ((S.next B1).put L1).put L2
  clear B1 L1 L2
  obtain ⟨⟨c0, c1, m0, m1, sz⟩, _⟩ := S.cel
  go_wp2_with fail
  go_light
  exact bodyPost_ret (v := .tuple #[.agg #[.slice A1 n1 c1', .slice A2 n2 c2'], .int .i64 0]) (by simp [results, Tryd.results25, go_sem, c0, c1]) rfl ⟨_, _, _, _, _, _, rfl, S.lie.2.1.put2 c0 c1 _ _, S.lie.1.put2 c0 c1 _ _, (S.bl.setCell (Nat.le_refl _) _).setCell (Nat.le_refl _) _⟩
set_option maxHeartbeats 1000000 in
set_option maxRecDepth 100000 in
theorem ratText_no {A A' : Option Addr} {n c n' c' : Nat} {xs ys : List Nat} {w : World} (ha : Lim w A n c xs) (hb : Lim w A' n' c' ys) (f : ¬ Fr xs ys) : Calls Tryd.prog 24 #[.agg #[.slice A n c, .slice A' n' c']] w fun e w' => e = .returned (.string ⟨#[]⟩) ∧ Below w.heap.size w w' := by
  have S := (((Fs.start w).put ha).put hb).box (.slice A n c) (.slice A' n' c')
  clear ha hb
  go_enter Tryd.func24, Tryd.ntmps24
  go_wp2_with fail
  generalize w.alloc (.cells #[.slice A n c, .slice A' n' c'] 30) = w0 at *
  have K := ratRight_any S.lie.2.1 S.lie.1
  rw [frB_no f] at K
  refine K.mono ?_
  clear K
  rintro e w1 ⟨rfl, B1⟩
  have S := S.next B1
  clear B1
  go_wp2_with fail
  go_ret
  exact ⟨rfl, S.bl⟩
set_option maxHeartbeats 2000000 in
set_option maxRecDepth 100000 in
theorem ratText_yes {A A' : Option Addr} {n c n' c' p q : Nat} {w : World} (ha : Lim w A n c (limbs p)) (hb : Lim w A' n' c' (limbs q)) (f : Fq p q) : Calls Tryd.prog 24 #[.agg #[.slice A n c, .slice A' n' c']] w fun e w' => e = .returned (.string ⟨(dtext p ++ 47 :: dtext q).toArray⟩) ∧ Below w.heap.size w w' := by
  have S := (((Fs.start w).put ha).put hb).box (.slice A n c) (.slice A' n' c')
  clear ha hb
  go_enter Tryd.func24, Tryd.ntmps24
  go_wp2_with fail
  generalize w.alloc (.cells #[.slice A n c, .slice A' n' c'] 30) = w0 at *
  have K := ratRight_any S.lie.2.1 S.lie.1
  rw [frB_yes f.fr] at K
  refine K.mono ?_
  clear K
  rintro e w1 ⟨rfl, B1⟩
  have S := S.next B1
  clear B1
  go_upto_region 3 with fail
  have LA := S.lie.2.1
  have LB := S.lie.1
  have lp := f.lp; have lq := f.lq
  obtain ⟨P, hP⟩ : ∃ P, dtext p = P := ⟨_, rfl⟩
  obtain ⟨Q, hQ⟩ : ∃ Q, dtext q = Q := ⟨_, rfl⟩
  have sP : P.length ≤ 1000 := by rw [← hP]; exact dtext_len lp
  have sQ : Q.length ≤ 1000 := by rw [← hQ]; exact dtext_len lq
  have t1 : ¬ 9223372036854775807 < P.length + 1 := by omega
  have t2 : ¬ 9223372036854775807 < P.length + 1 + Q.length := by omega
  have TA : ∀ W, Below w1.heap.size w1 W → Calls Tryd.prog 44 #[.slice A n c] W fun e w' => e = .returned (.string ⟨P.toArray⟩) ∧ Below W.heap.size W w' := fun W h => hP ▸ text_any (LA.next h) lp
  have TB : ∀ W, Below w1.heap.size w1 W → Calls Tryd.prog 44 #[.slice A' n' c'] W fun e w' => e = .returned (.string ⟨Q.toArray⟩) ∧ Below W.heap.size W w' := fun W h => hQ ▸ text_any (LB.next h) lq
  obtain ⟨⟨c0, c1, -⟩, -⟩ := S.cel
  have TA := Lib.hid TA; have TB := Lib.hid TB
  have SB := Lib.hid S.bl
  have HP := Lib.hid hP; have HQ := Lib.hid hQ
  clear S f LA LB lp lq sP sQ hP hQ
  go_region_held3 (fun w' => w'.cell? ⟨w.heap.size, 0, none⟩ = some (.slice A n c) ∧ w'.cell? ⟨w.heap.size, 1, none⟩ = some (.slice A' n' c'))
    ((refine ⟨?_, ?_⟩ <;> (repeat (first | with_reducible exact c0 | with_reducible exact c1 | with_reducible refine keep_drew ?_ | with_reducible refine keep_cell (by assumption) ?_))))
    (first
      | (go_at_call 44; (first | with_reducible refine (TA.out _ ?_).mono ?_ | with_reducible refine (TB.out _ ?_).mono ?_); (· repeat (first | with_reducible exact Below.refl _ _ | with_reducible exact (Below.refl _ _).drew | refine below_step ?_ (by assumption))); rintro e z ⟨rfl, Bz⟩))
  go_wp2_with fail
  go_ret
  refine ⟨?_, ?_⟩
  · rw [HP.out, HQ.out, ← cat3]; rfl
  · repeat (first | with_reducible exact SB.out.drew | refine below_step ?_ (by assumption))

theorem addR_yes {p q p' q' : Nat} (h0 : ln (q * q') ≤ 64) (h1 : ln (p * q') ≤ 64) (h2 : ln (p' * q) ≤ 64) (h3 : ln (p * q' + p' * q) ≤ 64) : addR p q p' q' = red (p * q' + p' * q) (q * q') := by unfold addR; rw [if_pos ⟨h0, h1, h2, h3⟩]
theorem subR_yes {p q p' q' : Nat} (h0 : ln (q * q') ≤ 64) (h1 : ln (p * q') ≤ 64) (h2 : ln (p' * q) ≤ 64) (h3 : p' * q ≤ p * q') : subR p q p' q' = red (p * q' - p' * q) (q * q') := by unfold subR; rw [if_pos ⟨h0, h1, h2⟩, if_pos h3]
theorem subR_low {p q p' q' : Nat} (h0 : ln (q * q') ≤ 64) (h1 : ln (p * q') ≤ 64) (h2 : ln (p' * q) ≤ 64) (h3 : p * q' < p' * q) : subR p q p' q' = (0, 0, 1) := by unfold subR; rw [if_pos ⟨h0, h1, h2⟩, if_neg (by omega)]
theorem mulR_yes {p q p' q' : Nat} (h0 : ln (p * p') ≤ 64) (h1 : ln (q * q') ≤ 64) : mulR p q p' q' = red (p * p') (q * q') := by unfold mulR; rw [if_pos ⟨h0, h1⟩]
theorem divR_zero {p q q' : Nat} : divR p q 0 q' = (0, 0, 7) := by unfold divR; rw [if_pos rfl]
theorem divR_yes {p q p' q' : Nat} (z : p' ≠ 0) (h0 : ln (p * q') ≤ 64) (h1 : ln (p' * q) ≤ 64) : divR p q p' q' = red (p * q') (p' * q) := by unfold divR; rw [if_neg z, if_pos ⟨h0, h1⟩]
theorem cmpN_yes {p q p' q' : Nat} (h0 : ln (p * q') ≤ 64) (h1 : ln (p' * q) ≤ 64) : cmpN p q p' q' = sgn (p * q') (p' * q) := by unfold cmpN; rw [if_pos ⟨h0, h1⟩]
theorem cmpE_yes {p q p' q' : Nat} (h0 : ln (p * q') ≤ 64) (h1 : ln (p' * q) ≤ 64) : cmpE p q p' q' = 0 := by unfold cmpE; rw [if_pos ⟨h0, h1⟩]
end Go.Proofs.YthollkngfibgaaaDoor
namespace Go.Proofs.YthollkngfibgaaaDoor
open Go.RowKit
set_option linter.unusedVariables false
set_option linter.unusedSimpArgs false
set_option maxHeartbeats 2000000
set_option maxRecDepth 100000
theorem U_low {n : Nat} (h : n < 18446744073709551616) : Wd.U n = .agg #[.int .u64 0, .int .u64 (n : Int)] := by
  have e1 : Wd.hi n = 0 := by unfold Wd.hi; omega
  have e2 : Wd.lo n = (n : Int) := by unfold Wd.lo; omega
  rw [Wd.U, e1, e2]
theorem fits_low {n : Nat} (h : n < 18446744073709551616) : Wd.Fits n := by unfold Wd.Fits; omega
theorem fits_prod {a b : Nat} (ha : a < 18446744073709551616) (hb : b < 18446744073709551616) : Wd.Fits (a * b) := by
  unfold Wd.Fits
  have : a * b ≤ 18446744073709551615 * 18446744073709551615 := Nat.mul_le_mul (by omega) (by omega)
  omega
theorem refProd_any (a b : Nat) (ha : a < 18446744073709551616) (hb : b < 18446744073709551616) (w : World) : Calls Tryd.prog 34 #[.int .u64 (a : Int), .int .u64 (b : Int)] w fun e w' => e = .returned (Wd.U (a * b)) ∧ Below w.heap.size w w' := by
  have KM := Lib.hid (fun W => Wd.refMul_any a b (fits_low ha) (fits_low hb) W)
  rw [U_low ha, U_low hb, Wd.cut_yes (fits_prod ha hb), Wd.fitsB_yes (fits_prod ha hb)] at KM
  obtain ⟨p, hp⟩ : ∃ p, p = a * b := ⟨_, rfl⟩
  rw [← hp] at KM ⊢
  clear hp
  have M := One.new w #[.int .u64 0, .int .u64 0] 60
  obtain ⟨g, hg⟩ : ∃ g, w.heap.size = g := ⟨_, rfl⟩
  rw [hg] at M
  go_enter Tryd.func34, Tryd.ntmps34
  go_wp2_with fail
  clear hg
  generalize w.alloc (.cells #[.int .u64 0, .int .u64 0] 60) = W0 at *
  refine (KM.out _).mono ?_
  rintro e W ⟨rfl, B⟩
  replace M := M.next B
  have D := M.two #[.int .u64 (Wd.hi p), .int .u64 (Wd.lo p)] 60
  obtain ⟨c0, c1⟩ := D.bg.two
  have m0 := D.bg.melt 0; have m1 := D.bg.melt 1
  obtain ⟨r, hr⟩ : ∃ r, W.heap.size = r := ⟨_, rfl⟩
  rw [hr] at D
  go_wp2_with fail
  replace D := D.swap.put2 (.int .u64 (Wd.hi p)) (.int .u64 (Wd.lo p))
  obtain ⟨z0, z1⟩ := D.br.two
  exact bodyPost_ret (v := Wd.U p) (by simp [results, Tryd.results34, go_sem, z0, z1]) rfl ⟨rfl, D.bl⟩
theorem sgn_same (a b : Nat) : Wd.sgn a b = sgn a b := by unfold Wd.sgn sgn; rfl
theorem refCmp10_any (a b : It) (ha : a.Fit) (hb : b.Fit) (w : World) : Calls Tryd.prog 14 #[itv a, itv b] w fun e w' => e = .returned (.int .i64 (cmpI a b)) ∧ Below w.heap.size w w' := by
  obtain ⟨ak, au, aw⟩ := a
  obtain ⟨bk, bu, bw⟩ := b
  have fa := ha.u; have fa2 := ha.w; have fb := hb.u; have fb2 := hb.w
  dsimp only at fa fa2 fb fb2
  have K1 := Lib.hid (fun W => refProd_any au bw fa fb2 W)
  have K2 := Lib.hid (fun W => refProd_any bu aw fb fa2 W)
  have KC := Lib.hid (fun W => Wd.refCmp_any (au * bw) (bu * aw) (fits_prod fa fb2) (fits_prod fb fa2) W)
  rw [sgn_same] at KC
  have CS := Lib.hid (show cmpI ⟨ak, au, aw⟩ ⟨bk, bu, bw⟩ = if sgn (au * bw) (bu * aw) = 0 then ksg ak bk else sgn (au * bw) (bu * aw) by unfold cmpI; rfl)
  generalize au * bw = p at *
  generalize bu * aw = q at *
  generalize sgn p q = c at *
  clear fa fa2 fb fb2 ha hb
  have D := Duo.new w #[.string ak, .int .u64 (au : Int), .int .u64 (aw : Int)] #[.string bk, .int .u64 (bu : Int), .int .u64 (bw : Int)] 24 24
  obtain ⟨g, hg⟩ : ∃ g, w.heap.size = g := ⟨_, rfl⟩
  rw [hg] at D
  go_enter Tryd.func14, Tryd.ntmps14
  go_wp2_with fail
  clear hg
  generalize (w.alloc (.cells #[.string ak, .int .u64 (au : Int), .int .u64 (aw : Int)] 24)).alloc (.cells #[.string bk, .int .u64 (bu : Int), .int .u64 (bw : Int)] 24) = W at *
  generalize g + 1 = r at *
  obtain ⟨a0, a1, a2⟩ := D.bg.three
  obtain ⟨b0, b1, b2⟩ := D.br.three
  have BW := Lib.hid D.bl
  go_region_held3 (fun w' => w'.cell? ⟨g, 0, none⟩ = some (.string ak) ∧ w'.cell? ⟨g, 1, none⟩ = some (.int .u64 (au : Int)) ∧ w'.cell? ⟨g, 2, none⟩ = some (.int .u64 (aw : Int)) ∧ w'.cell? ⟨r, 0, none⟩ = some (.string bk) ∧ w'.cell? ⟨r, 1, none⟩ = some (.int .u64 (bu : Int)) ∧ w'.cell? ⟨r, 2, none⟩ = some (.int .u64 (bw : Int)))
    ((refine ⟨?_, ?_, ?_, ?_, ?_, ?_⟩ <;> (repeat (first | with_reducible exact a0 | with_reducible exact a1 | with_reducible exact a2 | with_reducible exact b0 | with_reducible exact b1 | with_reducible exact b2 | with_reducible refine keep_drew ?_ | with_reducible refine keep_cell (by assumption) ?_))))
    (first
      | (go_at_call 34; (with_reducible refine (K1.out _).mono ?_); rintro e z ⟨rfl, BZ⟩)
      | (go_at_call 34; (with_reducible refine (K2.out _).mono ?_); rintro e z ⟨rfl, BZ⟩)
      | (go_at_call 33; (with_reducible refine (KC.out _).mono ?_); rintro e z ⟨rfl, BZ⟩))
  rename_i z1 B1 z2 B2 H6
  have BL := Lib.hid (below_step (below_step (below_step BW.out.drew B1) B2) BZ)
  obtain ⟨e0, e1, e2, f0, f1, f2⟩ := H6
  clear a0 a1 a2 b0 b1 b2 e1 e2 f1 f2 B1 B2 BZ D K1 K2 KC
  by_cases hc : c = 0
  · rw [if_pos hc] at CS
    cases h1 : Op.bytesLess ak.toList bk.toList
    · cases h2 : Op.bytesLess bk.toList ak.toList
      · have E : Hid (ksg ak bk = 0) := by unfold ksg; rw [h1, h2]; rfl
        have h3 : ak.toList = bk.toList := bl_eq h1 h2
        have h4 : (ak.toList == bk.toList) = true := by simpa using h3
        clear h3
        go_wp2_with fail
        go_ret
        exact ⟨by rw [CS.out, E.out]; rfl, BL.out⟩
      · have E : Hid (ksg ak bk = 1) := by unfold ksg; rw [h1, h2]; rfl
        have h4 : (ak.toList == bk.toList) = false := by
          cases q : (ak.toList == bk.toList) with
          | false => rfl
          | true => rw [eq_of_beq q, bl_irr] at h2; exact absurd h2 (by decide)
        go_wp2_with fail
        go_ret
        exact ⟨by rw [CS.out, E.out]; rfl, BL.out⟩
    · have E : Hid (ksg ak bk = -1) := by unfold ksg; rw [h1]; rfl
      go_wp2_with fail
      go_ret
      exact ⟨by rw [CS.out, E.out]; rfl, BL.out⟩
  · rw [if_neg hc] at CS
    have hb : (c == 0) = false := by simpa using hc
    go_wp2_with fail
    go_ret
    exact ⟨by rw [CS.out]; rfl, BL.out⟩
end Go.Proofs.YthollkngfibgaaaDoor
namespace Go.Proofs.YthollkngfibgaaaDoor
open Go.RowKit
set_option linter.unusedVariables false
set_option linter.unusedSimpArgs false
set_option maxHeartbeats 2000000
set_option maxRecDepth 100000
/-- May it be? -/
def mayB (x : It) : Bool := decide (x.k.size ≤ 64) && decide (0 < x.w)
theorem refMay_any (x : It) (w : World) : Calls Tryd.prog 40 #[itv x] w fun e w' => e = .returned (.bool (mayB x)) ∧ Below w.heap.size w w' := by
  obtain ⟨k, u, v⟩ := x
  have E : Hid (mayB ⟨k, u, v⟩ = (decide (k.size ≤ 64) && decide (0 < v))) := by unfold mayB; exact rfl
  by_cases h1 : k.size ≤ 64
  · have l1 : (k.size : Int) ≤ 64 := by omega
    by_cases h2 : 0 < v
    · have l2 : (0 : Int) < v := by omega
      rw [decide_eq_true h1, decide_eq_true h2] at E
      go_enter Tryd.func40, Tryd.ntmps40
      go_wp2_with fail
      go_ret
      exact ⟨by rw [E.out]; rfl, below_al (Below.refl _ _) _⟩
    · have l2 : ¬ (0 : Int) < v := by omega
      rw [decide_eq_true h1, decide_eq_false h2] at E
      go_enter Tryd.func40, Tryd.ntmps40
      go_wp2_with fail
      go_ret
      exact ⟨by rw [E.out]; rfl, below_al (Below.refl _ _) _⟩
  · have l1 : ¬ (k.size : Int) ≤ 64 := by omega
    rw [decide_eq_false h1] at E
    go_enter Tryd.func40, Tryd.ntmps40
    go_wp2_with fail
    go_ret
    exact ⟨by rw [E.out]; rfl, below_al (Below.refl _ _) _⟩
theorem refAll_any {A : Option Addr} {n c : Nat} {s : List It} {w : World} (h : Its w A n c s) (hn : n ≤ 1000000) : Calls Tryd.prog 20 #[.slice A n c] w fun e w' => e = .returned (.bool (s.all mayB)) ∧ Below w.heap.size w w' := by
  have H := Lib.hid h
  have HL := Lib.hid h.len
  have KM := Lib.hid (fun x W => refMay_any x W)
  clear h
  have hz : (n : Int) ≤ 1000000 := by omega
  go_enter Tryd.func20, Tryd.ntmps20
  go_wp2_with fail
  go_loopg [3] n (fun q s3 wr => ∃ i : Nat, i + q = n ∧ s3 = .int .i64 (i : Int) ∧ Hid ((s.take i).all mayB = true) ∧ Hid (Below w.heap.size w wr))
  case atStart => exact ⟨0, by omega, rfl, rfl, Below.refl _ _⟩
  case round =>
    obtain ⟨i, hq, rfl, hall, hb⟩ := hrel
    have HQ := Lib.hid hq
    by_cases lt : i < n
    · have i1 : (i : Int) < n := by omega
      have i0 : (0 : Int) ≤ i := by omega
      obtain ⟨ad, hj, rfl, a0, a1, a2, ft⟩ := (H.out.next hb.out).read i lt
      have ST : Hid ((s.take (i + 1)).all mayB = mayB s[i]) := by
        unfold Hid
        rw [List.take_succ_eq_append_getElem hj, List.all_append, hall.out, Bool.true_and]
        simp
      have K := Lib.hid (KM.out s[i] wr)
      clear hq ft
      go_wp2_with fail
      refine K.out.mono ?_
      rintro e z ⟨rfl, B⟩
      have BZ := Lib.hid (hb.out.trans (B.mono hb.out.size))
      cases hm : mayB s[i]
      · have E : Hid (s.all mayB = false) := by
          unfold Hid
          rw [List.all_eq_false]
          exact ⟨s[i], List.getElem_mem hj, by rw [hm]; decide⟩
        go_wp2_with fail
        go_ret
        exact ⟨by rw [E.out]; rfl, BZ.out⟩
      · rw [hm] at ST
        go_wp2_with fail
        go_roundg (gk - 1)
        case measure => have := HQ.out; omega
        case rel =>
          go_light
          exact ⟨i + 1, by have := HQ.out; omega, by go_num, ST.out, BZ.out⟩
    · obtain rfl : i = n := by omega
      have i1 : ¬ (i : Int) < i := by omega
      have E : Hid (s.all mayB = true) := by
        have := hall.out
        rw [List.take_of_length_le (by rw [HL.out]; exact Nat.le_refl _)] at this
        exact this
      clear hq lt
      go_wp2_with fail
      go_ret
      exact ⟨by rw [E.out]; rfl, hb.out⟩
/-- Few, and short? -/
def smallB (s : List It) : Bool := decide (s.length ≤ 60) && s.all fun x => decide (x.k.size ≤ 100)
theorem refSmall10_any {A : Option Addr} {n c : Nat} {s : List It} {w : World} (h : Its w A n c s) : Calls Tryd.prog 17 #[.slice A n c] w fun e w' => e = .returned (.bool (smallB s)) ∧ Below w.heap.size w w' := by
  have H := Lib.hid h
  have HL := Lib.hid h.len
  have hl := h.len
  clear h
  by_cases h60 : n ≤ 60
  · have l1 : ¬ (60 : Int) < n := by omega
    have SB : Hid (smallB s = s.all fun x => decide (x.k.size ≤ 100)) := by unfold Hid smallB; rw [decide_eq_true (by rw [hl]; exact h60), Bool.true_and]
    clear hl
    have hz : (n : Int) ≤ 60 := by omega
    go_enter Tryd.func17, Tryd.ntmps17
    go_wp2_with fail
    go_loopg [3] n (fun q s3 wr => ∃ i : Nat, i + q = n ∧ s3 = .int .i64 (i : Int) ∧ Hid (((s.take i).all fun x => decide (x.k.size ≤ 100)) = true) ∧ w = wr)
    case atStart => exact ⟨0, by omega, rfl, rfl, rfl⟩
    case round =>
      obtain ⟨i, hq, rfl, hall, rfl⟩ := hrel
      have HQ := Lib.hid hq
      by_cases lt : i < n
      · have i1 : (i : Int) < n := by omega
        have i0 : (0 : Int) ≤ i := by omega
        obtain ⟨ad, hj, rfl, a0, a1, a2, ft⟩ := H.out.read i lt
        have ST : Hid (((s.take (i + 1)).all fun x => decide (x.k.size ≤ 100)) = decide (s[i].k.size ≤ 100)) := by
          unfold Hid
          rw [List.take_succ_eq_append_getElem hj, List.all_append, hall.out, Bool.true_and]
          simp
        clear hq ft
        by_cases hk : s[i].k.size ≤ 100
        · have k1 : ¬ (100 : Int) < s[i].k.size := by omega
          rw [decide_eq_true hk] at ST
          go_wp2_with fail
          go_roundg (gk - 1)
          case measure => have := HQ.out; omega
          case rel =>
            go_light
            exact ⟨i + 1, by have := HQ.out; omega, by go_num, ST.out, rfl⟩
        · have k1 : (100 : Int) < s[i].k.size := by omega
          have E : Hid (smallB s = false) := by
            unfold Hid
            rw [SB.out, List.all_eq_false]
            exact ⟨s[i], List.getElem_mem hj, by simpa using hk⟩
          go_wp2_with fail
          go_ret
          exact ⟨by rw [E.out]; rfl, Below.refl _ _⟩
      · obtain rfl : i = n := by omega
        have i1 : ¬ (i : Int) < i := by omega
        have E : Hid (smallB s = true) := by
          have := hall.out
          rw [List.take_of_length_le (by rw [HL.out]; exact Nat.le_refl _)] at this
          unfold Hid
          rw [SB.out, this]
        clear hq lt
        go_wp2_with fail
        go_ret
        exact ⟨by rw [E.out]; rfl, Below.refl _ _⟩
  · have l1 : (60 : Int) < n := by omega
    have E : Hid (smallB s = false) := by unfold Hid smallB; rw [decide_eq_false (by rw [hl]; exact h60), Bool.false_and]
    go_enter Tryd.func17, Tryd.ntmps17
    go_wp2_with fail
    go_ret
    exact ⟨by rw [E.out]; rfl, Below.refl _ _⟩
/-- Lists that are the same are told so. -/
theorem refSame10_yes {A B : Option Addr} {n c d : Nat} {s : List It} {w : World} (h : Its w A n c s) (h' : Its w B n d s) (hn : n ≤ 1000000) : Calls Tryd.prog 22 #[.slice A n c, .slice B n d] w fun e w' => e = .returned (.bool true) ∧ Below w.heap.size w w' := by
  have H := Lib.hid h
  have H2 := Lib.hid h'
  clear h h'
  have hz : (n : Int) ≤ 1000000 := by omega
  go_enter Tryd.func22, Tryd.ntmps22
  go_wp2_with fail
  go_loopg [5] n (fun q s5 wr => ∃ i : Nat, i + q = n ∧ s5 = .int .i64 (i : Int) ∧ Hid (Below w.heap.size w wr))
  case atStart => exact ⟨0, by omega, rfl, Below.refl _ _⟩
  case round =>
    obtain ⟨i, hq, rfl, hb⟩ := hrel
    have HQ := Lib.hid hq
    by_cases lt : i < n
    · have i1 : (i : Int) < n := by omega
      have i0 : (0 : Int) ≤ i := by omega
      obtain ⟨ad, hj, rfl, a0, a1, a2, _⟩ := (H.out.next hb.out).read i lt
      obtain ⟨ad', _, rfl, b0, b1, b2, _⟩ := (H2.out.next hb.out).read i lt
      have HB := Lib.hid hb.out
      clear hq hb
      go_wp2_with fail
      go_quiet (fail)
      go_wp2_with fail
      go_roundg (gk - 1)
      case measure => have := HQ.out; omega
      case rel =>
        go_light
        exact ⟨i + 1, by have := HQ.out; omega, by go_num, below_drewN HB.out nq⟩
    · obtain rfl : i = n := by omega
      have i1 : ¬ (i : Int) < i := by omega
      clear hq lt
      go_wp2_with fail
      go_ret
      exact ⟨rfl, hb.out⟩
end Go.Proofs.YthollkngfibgaaaDoor
namespace Go.Proofs.YthollkngfibgaaaDoor
open Go.RowKit
set_option linter.unusedVariables false
set_option linter.unusedSimpArgs false
/-- The cells of items. -/
def icells (s : List It) : List Value := s.flatMap fun x => [.string x.k, .int .u64 (x.u : Int), .int .u64 (x.w : Int)]
theorem icells_cons (x : It) (s : List It) : icells (x :: s) = .string x.k :: .int .u64 (x.u : Int) :: .int .u64 (x.w : Int) :: icells s := rfl
theorem icells_app (s t : List It) : icells (s ++ t) = icells s ++ icells t := List.flatMap_append ..
theorem icells_len : ∀ s : List It, (icells s).length = s.length * 3
  | [] => rfl
  | x :: s => by rw [icells_cons]; simp only [List.length_cons, icells_len s]; omega
theorem icells_at : ∀ (s : List It) (j : Nat) (h : j < s.length), (icells s)[j * 3]? = some (.string s[j].k) ∧ (icells s)[j * 3 + 1]? = some (.int .u64 (s[j].u : Int)) ∧ (icells s)[j * 3 + 2]? = some (.int .u64 (s[j].w : Int))
  | x :: s, 0, _ => ⟨rfl, rfl, rfl⟩
  | x :: s, j + 1, h => by
    have hj : j < s.length := by simpa using h
    rw [icells_cons, show (j + 1) * 3 = j * 3 + 1 + 1 + 1 by omega, show j * 3 + 1 + 1 + 1 + 1 = (j * 3 + 1) + 1 + 1 + 1 by omega, show j * 3 + 1 + 1 + 1 + 2 = (j * 3 + 2) + 1 + 1 + 1 by omega]
    simp only [List.getElem?_cons_succ, List.getElem_cons_succ]
    exact icells_at s j hj
theorem icells_one {s : List It} {u : Value} (h : u ∈ icells s) : u.oneCell' = true := by
  unfold icells at h
  rw [List.mem_flatMap] at h
  obtain ⟨x, _, h⟩ := h
  simp only [List.mem_cons, List.not_mem_nil, or_false] at h
  rcases h with rfl | rfl | rfl <;> rfl
/-- Every cell is one of an item's. -/
theorem icells_cell {s : List It} {i : Nat} {u : Value} (h : (icells s)[i]? = some u) : ∃ (j : Nat) (hj : j < s.length), (i = j * 3 ∧ u = .string s[j].k) ∨ (i = j * 3 + 1 ∧ u = .int .u64 (s[j].u : Int)) ∨ (i = j * 3 + 2 ∧ u = .int .u64 (s[j].w : Int)) := by
  have hi := (List.getElem?_eq_some_iff.1 h).1
  rw [icells_len] at hi
  have hj : i / 3 < s.length := by omega
  obtain ⟨a0, a1, a2⟩ := icells_at s (i / 3) hj
  refine ⟨i / 3, hj, ?_⟩
  rcases (by omega : i = i / 3 * 3 ∨ i = i / 3 * 3 + 1 ∨ i = i / 3 * 3 + 2) with e | e | e
  · rw [← e, h] at a0; exact .inl ⟨e, Option.some.inj a0⟩
  · rw [← e, h] at a1; exact .inr (.inl ⟨e, Option.some.inj a1⟩)
  · rw [← e, h] at a2; exact .inr (.inr ⟨e, Option.some.inj a2⟩)
theorem Its.cells {W : World} {A : Option Addr} {n c : Nat} {s : List It} {ad : Addr} (h : Its W A n c s) (e : A = some ad) : ∀ j u, (icells s)[j]? = some u → W.cell? (ad.add j) = some u := by
  intro i u hu
  obtain ⟨j, hj, h3⟩ := icells_cell hu
  obtain ⟨ad', e', a0, a1, a2⟩ := h.at_ j hj
  rw [e] at e'
  obtain rfl := Option.some.inj e'
  rcases h3 with ⟨rfl, rfl⟩ | ⟨rfl, rfl⟩ | ⟨rfl, rfl⟩
  · exact a0
  · exact a1
  · exact a2
/-- The row v of the items s, of blocks from b on. -/
structure Rw (b : Nat) (v : Value) (s : List It) (W : World) : Prop where
  own : W.ownsRow b 24 3 v s.length (icells s)
  fit : ∀ x ∈ s, x.Fit
theorem Rw.nil (b : Nat) (W : World) : Rw b (.slice none 0 0) [] W := ⟨World.ownsRow_nil _ _ _ _, fun x h => absurd h (by simp)⟩
theorem Rw.mono {b b' : Nat} {v : Value} {s : List It} {W : World} (h : Rw b v s W) (hb : b' ≤ b) : Rw b' v s W := by
  refine ⟨⟨h.own.1, ?_⟩, h.fit⟩
  rcases h.own.2 with q | ⟨g, cap, cur, e, a, r⟩
  · exact .inl q
  · exact .inr ⟨g, cap, cur, e, Nat.le_trans hb a, r⟩
theorem Rw.next {b : Nat} {v : Value} {s : List It} {W W' : World} (h : Rw b v s W) (hb : Below W.heap.size W W') : Rw b v s W' := by
  refine ⟨⟨h.own.1, ?_⟩, h.fit⟩
  rcases h.own.2 with q | ⟨g, cap, cur, e, a, r, t⟩
  · exact .inl q
  · exact .inr ⟨g, cap, cur, e, a, (hb.block g (Array.getElem?_eq_some_iff.1 r).1).trans r, t⟩
theorem Rw.drew {b : Nat} {v : Value} {s : List It} {W : World} (h : Rw b v s W) : Rw b v s W.drew := ⟨h.own, h.fit⟩
/-- Its two forms. -/
theorem Rw.form {b : Nat} {v : Value} {s : List It} {W : World} (h : Rw b v s W) : (v = .slice none 0 0 ∧ s = []) ∨ ∃ g cap, v = .slice (some ⟨g, 0, none⟩) s.length cap ∧ b ≤ g ∧ g < W.heap.size ∧ s.length ≤ cap ∧ cap ≤ 9223372036854775807 ∧ Its W (some ⟨g, 0, none⟩) s.length cap s := by
  rcases h.own.2 with ⟨a, b⟩ | ⟨g, cap, cur, e, a, r, h1, h2, h3, h4⟩
  · exact .inl ⟨a, List.eq_nil_of_length_eq_zero b⟩
  · unfold maxLen at h2
    refine .inr ⟨g, cap, e, a, (Array.getElem?_eq_some_iff.1 r).1, h1, by omega, rfl, h1, by omega, fun j hj => ⟨_, rfl, ?_⟩, h.fit⟩
    have at_ : ∀ (i : Nat) (u : Value), i < s.length * 3 → (icells s)[i]? = some u → W.cell? ((⟨g, 0, none⟩ : Addr).add i) = some u := by
      intro i u hi hu
      have ea : (⟨g, 0, none⟩ : Addr).add i = ⟨g, i, none⟩ := by unfold Addr.add; split <;> simp_all
      rw [ea]
      rw [← h4, List.getElem?_take_of_lt hi] at hu
      have hu2 : cur[i]? = some u := by simpa using hu
      simp [World.cell?, r, hu2]
    obtain ⟨a0, a1, a2⟩ := icells_at s j hj
    exact ⟨at_ _ _ (by omega) a0, at_ _ _ (by omega) a1, at_ _ _ (by omega) a2⟩
theorem Rw.slice {b : Nat} {v : Value} {s : List It} {W : World} (h : Rw b v s W) : ∃ A c, v = .slice A s.length c ∧ Its W A s.length c s ∧ (A = none → c = 0) ∧ ∀ ad, A = some ad → ∃ g, ad = ⟨g, 0, none⟩ ∧ b ≤ g ∧ g < W.heap.size := by
  rcases h.form with ⟨rfl, rfl⟩ | ⟨g, cap, rfl, h1, h2, h3, h4, h5⟩
  · exact ⟨none, 0, rfl, Its.none_ _ _ _ rfl (by decide), fun _ => rfl, fun ad e => absurd e (by simp)⟩
  · exact ⟨_, cap, rfl, h5, fun e => absurd e (by simp), fun ad e => ⟨g, (Option.some.inj e).symm, h1, h2⟩⟩
/-- A stretch of what a slice reads as. -/
theorem Its.part {W : World} {A : Option Addr} {n c : Nat} {s : List It} (h : Its W A n c s) {g : Nat} (e : A = some ⟨g, 0, none⟩) (i m d : Nat) (him : i + m ≤ n) (hd : m ≤ d) (hd2 : d ≤ 9223372036854775807) : Its W (some ⟨g, i * 3, none⟩) m d ((s.drop i).take m) := by
  subst e
  have hl := h.len
  refine ⟨by rw [List.length_take, List.length_drop]; omega, hd, hd2, fun j hj => ⟨_, rfl, ?_⟩, fun x hx => h.fit x (List.mem_of_mem_drop (List.mem_of_mem_take hx))⟩
  have hj2 : j < m := by rw [List.length_take] at hj; omega
  obtain ⟨ad, e, a0, a1, a2⟩ := h.at_ (i + j) (by omega)
  obtain rfl := Option.some.inj e
  have ea : ∀ k l : Nat, k + l = (i + j) * 3 + (k + l - (i + j) * 3) → True := fun _ _ _ => trivial
  have e1 : ∀ k : Nat, (⟨g, i * 3, none⟩ : Addr).add (j * 3 + k) = (⟨g, 0, none⟩ : Addr).add ((i + j) * 3 + k) := by
    intro k
    unfold Addr.add
    (repeat' split) <;> simp_all <;> omega
  have e2 : ((s.drop i).take m)[j] = s[i + j] := by rw [List.getElem_take, List.getElem_drop]
  rw [e2]
  refine ⟨?_, ?_, ?_⟩
  · rw [show j * 3 = j * 3 + 0 from rfl, e1]; exact a0
  · rw [e1]; exact a1
  · rw [e1]; exact a2
theorem Its.front {W : World} {A : Option Addr} {n c : Nat} {s : List It} (h : Its W A n c s) (p : Nat) (hp : p ≤ n) : Its W A p c (s.take p) := by
  have hl := h.len
  have hc := h.cap
  refine ⟨by rw [List.length_take]; omega, by omega, h.top, fun j hj => ?_, fun x hx => h.fit x (List.mem_of_mem_take hx)⟩
  rw [List.length_take] at hj
  obtain ⟨ad, e, a0, a1, a2⟩ := h.at_ j (by omega)
  rw [List.getElem_take]
  exact ⟨ad, e, a0, a1, a2⟩
theorem Its.new (W : World) (x : It) (hx : x.Fit) (t : TypeId) : Its (W.alloc (.cells #[.string x.k, .int .u64 (x.u : Int), .int .u64 (x.w : Int)] t)) (some ⟨W.heap.size, 0, none⟩) 1 1 [x] := by
  have M := Box.new W #[.string x.k, .int .u64 (x.u : Int), .int .u64 (x.w : Int)] t
  obtain ⟨c0, c1, c2⟩ := M.three
  refine ⟨rfl, Nat.le_refl _, by decide, fun j hj => ⟨_, rfl, ?_⟩, fun y hy => by rw [List.mem_singleton] at hy; rw [hy]; exact hx⟩
  obtain rfl : j = 0 := by simpa using hj
  exact ⟨c0, c1, c2⟩
theorem Its.zero (W : World) (A : Option Addr) (c : Nat) (hc : c ≤ 9223372036854775807) : Its W A 0 c [] :=
  ⟨rfl, Nat.zero_le _, hc, fun j hj => absurd hj (by simp), fun x hx => absurd hx (by simp)⟩
/-- append, in a walk. -/
theorem wpList_appI {ops : Array Oper} {rest : List Oper} {o : Oper} {a : Act} {Q : Exit → Act → World → Prop} {W : World} (hgd : o.guard = none) (s x : Operand)
    (ho : o.op = .call { callee := .builtin .append, args := #[s, x], argTypes := #[39, 39] }) {b : Nat} {v : Value} {l m : List It} (hs : a.eval s = v) (R : Rw b v l W) (hb : b ≤ W.heap.size)
    {A : Option Addr} {n c : Nat} (hx : a.eval x = .slice A n c) (I : Its W A n c m) (hc : A = none → c = 0) (small : l.length + m.length ≤ 1000000)
    (hK : ∀ v' W', Rw b v' (l ++ m) W' → Below b W W' → wpList Tryd.prog ops Q rest (a.put o.dst v') W') : wpList Tryd.prog ops Q (o :: rest) a W := by
  have hi : (Tryd.prog.info? 24).map (fun i => (i.zero, i.size, i.bytes)) = some (some (.agg #[.string ⟨#[]⟩, .int .u64 0, .int .u64 0]), 3, 32) := by kernel_rfl
  cases hq : Tryd.prog.info? 24 with
  | none => simp [hq] at hi
  | some i =>
    obtain ⟨h1, h2, h3⟩ : i.zero = some (.agg #[.string ⟨#[]⟩, .int .u64 0, .int .u64 0]) ∧ i.size = 3 ∧ i.bytes = 32 := by simpa [hq] using hi
    have fit : ∀ y ∈ l ++ m, y.Fit := fun y hy => (List.mem_append.1 hy).elim (R.fit y) (I.fit y)
    cases A with
    | none =>
      obtain rfl := hc rfl
      have hm : m = [] := by
        cases m with
        | nil => rfl
        | cons y r => obtain ⟨_, e, _⟩ := I.at_ 0 (by simp); exact absurd e (by simp)
      subst hm
      have hn : n = 0 := by have := I.len; simpa using this.symm
      subst hn
      refine wpList_append_own_none hgd s x 39 ho b 24 i 3 Tryd.underlying39 hq v l.length (icells l) hs R.own hx ?_
      have := hK v W (by rw [List.append_nil]; exact R) (Below.refl _ _)
      exact this
    | some ad =>
      refine wpList_append_own W hgd s x 39 ho b 24 i _ 3 32 Tryd.underlying39 hq h1 h2 h3 rfl (by decide) v l.length (icells l) hs R.own ad n c (icells m) hx (by rw [icells_len, I.len]) (I.cells rfl) (fun u hu => icells_one hu)
        (by unfold maxLen; have := I.len; omega) (by have := I.len; omega) hb ?_
      intro v' W' ho' hg _
      have hl := I.len
      refine hK v' W' ⟨?_, fit⟩ ((Below.refl b W).grown hg hb (fun k hk => ?_))
      · rw [List.length_append, hl, icells_app]; exact ho'
      · exact (R.own.lt k hk).1
end Go.Proofs.YthollkngfibgaaaDoor
namespace Go.Proofs.YthollkngfibgaaaDoor
open Go.RowKit
set_option linter.unusedVariables false
set_option linter.unusedSimpArgs false
set_option maxHeartbeats 2000000
set_option maxRecDepth 100000
theorem take_ahead {s : List It} {x : It} (hs : Sorted s) (m : May s) (hx : 0 < x.w) {p : Nat} (hp : p + 1 ≤ s.length) (h : ¬ cmpI x s[p] < 0) : ∀ y ∈ s.take (p + 1), cmpI y x ≤ 0 := by
  intro y hy
  rw [List.take_succ_eq_append_getElem (by omega), List.mem_append, List.mem_singleton] at hy
  have e := cmpI_ge h
  rcases hy with hy | rfl
  · have : cmpI y s[p] ≤ 0 := by
      have q := hs
      rw [← List.take_append_drop p s] at q
      have := (List.pairwise_append.1 q).2.2 y hy s[p] (by rw [List.drop_eq_getElem_cons (by omega)]; exact .head _)
      exact this
    exact cmpI_trans (m _ (List.getElem_mem _)) hx (m y (List.mem_of_mem_take hy)) this e
  · exact e
theorem refSort10_any {A : Option Addr} {n c : Nat} {l : List It} {w : World} (h : Its w A n c l) (m : May l) (hn : n ≤ 1000) : Calls Tryd.prog 21 #[.slice A n c] w fun e w' => ∃ v s, e = .returned v ∧ IsSort l s ∧ Rw w.heap.size v s w' ∧ Below w.heap.size w w' := by
  have H := Lib.hid h
  have HL := Lib.hid h.len
  have HM := Lib.hid m
  have KC := Lib.hid (fun x y (hx : It.Fit x) (hy : It.Fit y) W => refCmp10_any x y hx hy W)
  clear h m
  have hz : (n : Int) ≤ 1000 := by omega
  go_enter Tryd.func21, Tryd.ntmps21
  go_wp2_with fail
  go_loopg [3, 4, 5, 6] n (fun q s3 s4 _ _ wr => ∃ (i : Nat) (s : List It), i + q = n ∧ s4 = .int .i64 (i : Int) ∧ Hid (IsSort (l.take i) s) ∧ Hid (Rw w.heap.size s3 s wr) ∧ Hid (Below w.heap.size w wr))
  case atStart => exact ⟨0, [], by omega, rfl, isSort_nil, Rw.nil _ _, Below.refl _ _⟩
  case round =>
    obtain ⟨i, s, hq, rfl, IS, R, BL⟩ := hrel
    have HQ := Lib.hid hq
    obtain ⟨X, rfl⟩ : ∃ X, X = gk := ⟨_, rfl⟩
    by_cases lt : i < n
    · have i1 : (i : Int) < n := by omega
      have i0 : (0 : Int) ≤ i := by omega
      obtain ⟨ad, hj, rfl, a0, a1, a2, ft⟩ := (H.out.next BL.out).read i lt
      have hsl : Hid (s.length = i) := by
        unfold Hid
        rw [IS.out.len, List.length_take, HL.out]; omega
      have FX := Lib.hid ft
      have WX : Hid (0 < l[i].w) := HM.out _ (List.getElem_mem hj)
      generalize hxx : l[i] = x at *
      have HX := Lib.hid hxx
      clear hxx ft hq
      obtain ⟨B, c3, rfl, I3, hc3, hg3⟩ := R.out.slice
      have I3 := Lib.hid I3
      have LS := Lib.hid hsl.out
      rw [hsl.out]
      have i9 : (i : Int) ≤ 1000 := by omega
      obtain ⟨Wo, rfl⟩ : ∃ W : World, W = wr := ⟨_, rfl⟩
      go_wp2_with fail
      go_loopg [5] i (fun q s5 wt => ∃ p : Nat, s5 = .int .i64 (p : Int) ∧ p = q ∧ p ≤ i ∧ Hid (∀ y ∈ s.drop p, cmpI x y < 0) ∧ Hid (Below Wo.heap.size Wo wt))
      case atStart => exact ⟨i, rfl, rfl, Nat.le_refl _, by unfold Hid; rw [← hsl.out, List.drop_length]; intro y hy; exact absurd hy (by simp), Below.refl _ _⟩
      case round =>
        obtain ⟨p, rfl, rfl, pi, DR, BT⟩ := hrel
        clear a0 a1 a2
        have p3 : (0 : Int) ≤ p := by omega
        have p2 : (p : Int) ≤ i := by omega
        by_cases hp : p = 0
        · subst hp
          have P1 : Hid (∀ y ∈ s.take 0, cmpI y x ≤ 0) := by unfold Hid; intro y hy; exact absurd hy (by simp)
          clear p2 p3
          go_wp2_with fail
          go_region
          have BZ := Lib.hid BT.out.drew
          generalize wr.drew = Zt at *
          have I4 := Lib.hid ((I3.out.next BZ.out).front 0 (by rw [hsl.out]; omega))
          have SM1 := Lib.hid (show ([] : List It).length + (s.take 0).length ≤ 1000000 by have := I4.out.len; simp only [List.length_nil]; omega)
          have SM2 := Lib.hid (show (s.take 0).length + [x].length ≤ 1000000 by have := I4.out.len; simp only [List.length_cons, List.length_nil]; omega)
          go_wp2_with (at_builtin; refine wpList_appI rfl _ _ rfl rfl (Rw.nil Zt.heap.size Zt) (Nat.le_refl _) rfl I4.out hc3 SM1.out ?_)
          intro v1 W1 R1 B1
          replace R1 : Rw Zt.heap.size v1 (s.take 0) W1 := by simpa using R1
          have BW1 := Lib.hid (BZ.out.trans (B1.mono BZ.out.size))
          obtain ⟨adx, hjx, ex, d0, d1, d2, ftx⟩ := (H.out.next (BL.out.trans (BW1.out.mono BL.out.size))).read i (by omega)
          obtain rfl := Option.some.inj ex
          rw [HX.out] at d0 d1 d2
          have R1' := Lib.hid (R1.next ((Below.refl _ _).alloc (Nat.le_refl _) (.cells #[.string x.k, .int .u64 (x.u : Int), .int .u64 (x.w : Int)] 24)))
          have H1' := Lib.hid (Nat.le_trans B1.size ((Below.refl W1.heap.size W1).alloc (Nat.le_refl _) (.cells #[.string x.k, .int .u64 (x.u : Int), .int .u64 (x.w : Int)] 24)).size)
          clear R1 ftx
          go_wp2_with (at_builtin; refine wpList_appI rfl _ _ rfl rfl R1'.out H1'.out rfl (Its.new W1 x FX.out _) (fun e => absurd e (by simp)) SM2.out ?_)
          intro v2 W2 R2 B2
          replace R2 : Rw Zt.heap.size v2 (s.take 0 ++ [x]) W2 := by simpa using R2
          have BW2 := Lib.hid ((BW1.out.alloc BW1.out.size _).trans (B2.mono BZ.out.size))
          clear d0 d1 d2
          have I5 : Hid (Its W2 B i c3 s) := by
            have q := I3.out.next BW2.out
            rw [hsl.out] at q
            exact q
          have SM3 := Lib.hid (show (s.take 0 ++ [x]).length + s.length ≤ 1000000 by rw [hsl.out, List.take_zero]; simp only [List.nil_append, List.length_cons, List.length_nil]; omega)
          go_wp2_with (at_builtin; refine wpList_appI rfl _ _ rfl rfl R2 (Nat.le_trans H1'.out B2.size) rfl I5.out hc3 SM3.out ?_)
          intro v3 W3 R3 B3
          have NS : Hid (IsSort (l.take (i + 1)) (s.take 0 ++ x :: s.drop 0)) := by
            unfold Hid
            rw [List.take_succ_eq_append_getElem hj, HX.out]
            exact IS.out.put (fun y hy => HM.out y (List.mem_of_mem_take hy)) WX.out 0 P1.out DR.out
          have RN : Hid (Rw w.heap.size v3 (s.take 0 ++ x :: s.drop 0) W3) := by
            have q := R3.mono (b' := w.heap.size) (Nat.le_trans BL.out.size BZ.out.size)
            have e : ∀ t u : List It, t = u → Rw w.heap.size v3 t W3 → Rw w.heap.size v3 u W3 := fun t u h k => h ▸ k
            exact e _ _ (by simp) q
          have BN := Lib.hid (BL.out.trans ((BW2.out.trans (B3.mono BZ.out.size)).mono BL.out.size))
          clear R3 R2 B3 B2 B1
          go_wp2_with fail
          go_roundg (X - 1)
          case measure => have := HQ.out; omega
          case rel =>
            go_light
            exact ⟨i + 1, _, by have := HQ.out; omega, by go_num, NS.out, RN.out, BN.out⟩
        · obtain ⟨p', hp'⟩ : ∃ x, p = x + 1 := ⟨p - 1, by omega⟩
          have p1 : p' < i := by omega
          have pp : (0 : Int) < p := by omega
          have ppn : 0 < p := by omega
          have pw : IntKind.i64.wrap ((p : Int) - 1) = (p' : Int) := by rw [IntKind.wrap_i64]; omega
          have p0 : (0 : Int) ≤ p' := by omega
          have pl : (p' : Int) < i := by omega
          have bt := Lib.hid (BL.out.trans (BT.out.mono BL.out.size))
          obtain ⟨ad2, hj2, e2, a0, a1, a2, ft2⟩ := (H.out.next bt.out).read i (by omega)
          obtain rfl := Option.some.inj e2
          rw [HX.out] at a0 a1 a2
          obtain ⟨ad3, hj3, rfl, b0, b1, b2, ft3⟩ := (I3.out.next BT.out).read p' (by rw [hsl.out]; omega)
          obtain ⟨y, hy⟩ : ∃ y, y = s[p'] := ⟨_, rfl⟩
          rw [← hy] at b0 b1 b2 ft3
          have HY := Lib.hid hy
          have K := Lib.hid (KC.out x y FX.out ft3)
          obtain ⟨cc, hcc⟩ : ∃ cc, cc = cmpI x y := ⟨_, rfl⟩
          rw [← hcc] at K
          have HPZ := Lib.hid hp'
          have HCC := Lib.hid hcc
          clear hy hp hp' hcc ft2 ft3
          go_wp2_with fail
          go_region_held3 (fun w' => w'.cell? (ad.add (i * 3)) = some (.string x.k) ∧ w'.cell? ⟨(ad.add (i * 3)).block, (ad.add (i * 3)).off + 1, none⟩ = some (.int .u64 (x.u : Int)) ∧ w'.cell? ⟨(ad.add (i * 3)).block, (ad.add (i * 3)).off + 2, none⟩ = some (.int .u64 (x.w : Int)) ∧
              w'.cell? (ad3.add (p' * 3)) = some (.string y.k) ∧ w'.cell? ⟨(ad3.add (p' * 3)).block, (ad3.add (p' * 3)).off + 1, none⟩ = some (.int .u64 (y.u : Int)) ∧ w'.cell? ⟨(ad3.add (p' * 3)).block, (ad3.add (p' * 3)).off + 2, none⟩ = some (.int .u64 (y.w : Int)))
            ((refine ⟨?_, ?_, ?_, ?_, ?_, ?_⟩ <;> (repeat (first | with_reducible exact a0 | with_reducible exact a1 | with_reducible exact a2 | with_reducible exact b0 | with_reducible exact b1 | with_reducible exact b2 | with_reducible refine keep_drew ?_ | with_reducible refine keep_cell (by assumption) ?_))))
            (first | (go_at_call 14; (with_reducible refine (K.out _).mono ?_); rintro e Zt ⟨rfl, BZ⟩))
          replace BZ := Lib.hid (BT.out.drew.trans (BZ.mono BT.out.drew.size))
          by_cases hc : cc < 0
          · have DR2 : Hid (∀ y ∈ s.drop p', cmpI x y < 0) := by
              unfold Hid
              rw [List.drop_eq_getElem_cons hj3]
              intro z hz
              rcases List.mem_cons.1 hz with rfl | hz
              · rw [← HY.out, ← HCC.out]; exact hc
              · exact DR.out z (by rw [HPZ.out]; exact hz)
            go_wp2_with fail
            go_roundg p'
            case measure => have := HPZ.out; omega
            case rel =>
              go_light
              exact ⟨p', by first | rfl | go_num, rfl, by omega, DR2.out, BZ.out⟩
          · have P1 : Hid (∀ y ∈ s.take p, cmpI y x ≤ 0) := by
              unfold Hid
              have q := take_ahead IS.out.sorted (IS.out.may (fun y hy => HM.out y (List.mem_of_mem_take hy))) WX.out hj3 (x := x) (by rw [← HY.out, ← HCC.out]; exact hc)
              rw [HPZ.out]
              exact q
            clear a0 a1 a2 b0 b1 b2
            have pc : p ≤ c3 := by have := I3.out.cap; rw [hsl.out] at this; omega
            have pcI : (p : Int) ≤ c3 := by omega
            have I4 := Lib.hid ((I3.out.next BZ.out).front p (by rw [hsl.out]; omega))
            have SM1 := Lib.hid (show ([] : List It).length + (s.take p).length ≤ 1000000 by have := I4.out.len; simp only [List.length_nil]; omega)
            have SM2 := Lib.hid (show (s.take p).length + [x].length ≤ 1000000 by have := I4.out.len; simp only [List.length_cons, List.length_nil]; omega)
            go_wp2_with (at_builtin; refine wpList_appI rfl _ _ rfl rfl (Rw.nil Zt.heap.size Zt) (Nat.le_refl _) rfl I4.out hc3 SM1.out ?_)
            intro v1 W1 R1 B1
            replace R1 : Rw Zt.heap.size v1 (s.take p) W1 := by simpa using R1
            have BW1 := Lib.hid (BZ.out.trans (B1.mono BZ.out.size))
            obtain ⟨adx, hjx, ex, d0, d1, d2, ftx⟩ := (H.out.next (BL.out.trans (BW1.out.mono BL.out.size))).read i (by omega)
            obtain rfl := Option.some.inj ex
            rw [HX.out] at d0 d1 d2
            have R1' := Lib.hid (R1.next ((Below.refl _ _).alloc (Nat.le_refl _) (.cells #[.string x.k, .int .u64 (x.u : Int), .int .u64 (x.w : Int)] 24)))
            have H1' := Lib.hid (Nat.le_trans B1.size ((Below.refl W1.heap.size W1).alloc (Nat.le_refl _) (.cells #[.string x.k, .int .u64 (x.u : Int), .int .u64 (x.w : Int)] 24)).size)
            clear R1 ftx
            go_wp2_with (at_builtin; refine wpList_appI rfl _ _ rfl rfl R1'.out H1'.out rfl (Its.new W1 x FX.out _) (fun e => absurd e (by simp)) SM2.out ?_)
            intro v2 W2 R2 B2
            replace R2 : Rw Zt.heap.size v2 (s.take p ++ [x]) W2 := by simpa using R2
            have BW2 := Lib.hid ((BW1.out.alloc BW1.out.size _).trans (B2.mono BZ.out.size))
            clear d0 d1 d2
            have ct := Lib.hid (show i ≤ c3 by have := I3.out.cap; rw [hsl.out] at this; exact this)
            have SM3 := Lib.hid (show (s.take p ++ [x]).length + (s.drop p).length ≤ 1000000 by simp only [List.length_append, List.length_take, List.length_drop, List.length_cons, List.length_nil, hsl.out]; omega)
            by_cases hcap : c3 = p
            · have ip : i - p = 0 := by have := ct.out; omega
              have I5 : Hid (Its W2 (some ad3) 0 0 (s.drop p)) := by
                unfold Hid
                rw [List.drop_of_length_le (by rw [hsl.out]; omega)]
                exact Its.zero _ _ _ (by decide)
              have hcapI : (c3 : Int) = (p : Int) := by omega
              go_wp2_with (at_builtin; refine wpList_appI rfl _ _ rfl rfl R2 (Nat.le_trans H1'.out B2.size) rfl I5.out (fun e => absurd e (by simp)) SM3.out ?_)
              intro v3 W3 R3 B3
              have NS : Hid (IsSort (l.take (i + 1)) (s.take p ++ x :: s.drop p)) := by
                unfold Hid
                rw [List.take_succ_eq_append_getElem hj, HX.out]
                exact IS.out.put (fun y hy => HM.out y (List.mem_of_mem_take hy)) WX.out p P1.out DR.out
              have RN : Hid (Rw w.heap.size v3 (s.take p ++ x :: s.drop p) W3) := by
                have q := R3.mono (b' := w.heap.size) (Nat.le_trans BL.out.size BZ.out.size)
                have e : ∀ t u : List It, t = u → Rw w.heap.size v3 t W3 → Rw w.heap.size v3 u W3 := fun t u h k => h ▸ k
                exact e _ _ (by simp) q
              have BN := Lib.hid (BL.out.trans ((BW2.out.trans (B3.mono BZ.out.size)).mono BL.out.size))
              clear R3 R2 B3 B2 B1
              go_wp2_with fail
              go_roundg (X - 1)
              case measure => have := HQ.out; omega
              case rel =>
                go_light
                exact ⟨i + 1, _, by have := HQ.out; omega, by go_num, NS.out, RN.out, BN.out⟩
            · have I5 : Hid (Its W2 (some (ad3.add (p * 3))) (i - p) (c3 - p) (s.drop p)) := by
                have q := I3.out.next BW2.out
                rw [hsl.out] at q
                obtain ⟨g, eg, _, _⟩ := hg3 ad3 rfl
                have top := q.top
                have cp := q.cap
                have r := q.part (g := g) (by rw [eg]) p (i - p) (c3 - p) (by omega) (by omega) (by omega)
                rw [List.take_of_length_le (by rw [List.length_drop, hsl.out]; exact Nat.le_refl _)] at r
                have ea : ad3.add (p * 3) = ⟨g, p * 3, none⟩ := by rw [eg]; unfold Addr.add; split <;> simp_all
                rw [ea]
                exact r
              have hcapI : ¬ (c3 : Int) = (p : Int) := by omega
              have hcapL : (p : Int) < c3 := by have := ct.out; omega
              have hcapN : p < c3 := by have := ct.out; omega
              go_wp2_with (at_builtin; refine wpList_appI rfl _ _ rfl rfl R2 (Nat.le_trans H1'.out B2.size) rfl I5.out (fun e => absurd e (by simp)) SM3.out ?_)
              intro v3 W3 R3 B3
              have NS : Hid (IsSort (l.take (i + 1)) (s.take p ++ x :: s.drop p)) := by
                unfold Hid
                rw [List.take_succ_eq_append_getElem hj, HX.out]
                exact IS.out.put (fun y hy => HM.out y (List.mem_of_mem_take hy)) WX.out p P1.out DR.out
              have RN : Hid (Rw w.heap.size v3 (s.take p ++ x :: s.drop p) W3) := by
                have q := R3.mono (b' := w.heap.size) (Nat.le_trans BL.out.size BZ.out.size)
                have e : ∀ t u : List It, t = u → Rw w.heap.size v3 t W3 → Rw w.heap.size v3 u W3 := fun t u h k => h ▸ k
                exact e _ _ (by simp) q
              have BN := Lib.hid (BL.out.trans ((BW2.out.trans (B3.mono BZ.out.size)).mono BL.out.size))
              clear R3 R2 B3 B2 B1
              go_wp2_with fail
              go_roundg (X - 1)
              case measure => have := HQ.out; omega
              case rel =>
                go_light
                exact ⟨i + 1, _, by have := HQ.out; omega, by go_num, NS.out, RN.out, BN.out⟩
    · obtain rfl : i = n := by omega
      have i1 : ¬ (i : Int) < i := by omega
      have IS2 : Hid (IsSort l s) := by
        have q := IS.out
        rw [List.take_of_length_le (by rw [HL.out]; exact Nat.le_refl _)] at q
        exact q
      clear hq lt
      go_wp2_with fail
      go_ret
      exact ⟨_, rfl, s, IS2.out, R.out, BL.out⟩
end Go.Proofs.YthollkngfibgaaaDoor
namespace Go.Proofs.YthollkngfibgaaaDoor
open Go.RowKit
set_option linter.unusedVariables false
set_option linter.unusedSimpArgs false

theorem Fs.alloc {w W : World} {cs : List (Nat × Value × Value)} {l : List (Option Addr × Nat × Nat × List Nat)} (s : Fs w cs l W) (o : Obj) : Fs w cs l (W.alloc o) := s.next ((Below.refl _ _).alloc (Nat.le_refl _) o)
theorem newc {Y z : World} {a b : Value} {t : TypeId} (h : Below (Y.alloc (.cells #[a, b] t)).heap.size (Y.alloc (.cells #[a, b] t)) z) : z.cell? ⟨Y.heap.size, 0, none⟩ = some a ∧ z.cell? ⟨Y.heap.size, 1, none⟩ = some b ∧ z.frozen? ⟨Y.heap.size, 0, none⟩ = false ∧ z.frozen? ⟨Y.heap.size, 1, none⟩ = false ∧ Y.heap.size < z.heap.size := by
  have c0 : (Y.alloc (.cells #[a, b] t)).cell? ⟨Y.heap.size, 0, none⟩ = some a := by simp [go_sem]
  have c1 : (Y.alloc (.cells #[a, b] t)).cell? ⟨Y.heap.size, 1, none⟩ = some b := by simp [go_sem]
  have q := h.size
  rw [World.size_alloc] at q
  exact ⟨keep_cell h c0, keep_cell h c1, keep_melt h c0 (by simp [go_sem]), keep_melt h c1 (by simp [go_sem]), by omega⟩
theorem newcd {Y z : World} {a b : Value} {t : TypeId} (h : Below (Y.alloc (.cells #[a, b] t)).drew.heap.size (Y.alloc (.cells #[a, b] t)).drew z) : z.cell? ⟨Y.heap.size, 0, none⟩ = some a ∧ z.cell? ⟨Y.heap.size, 1, none⟩ = some b ∧ z.frozen? ⟨Y.heap.size, 0, none⟩ = false ∧ z.frozen? ⟨Y.heap.size, 1, none⟩ = false ∧ Y.heap.size < z.heap.size :=
  newc (below_step (Below.refl _ _).drew h)
theorem lim_one (w : World) (x : Nat) (hx : x < 4294967296) (h0 : x ≠ 0) : Lim (w.alloc (.cells #[.int .u32 (x : Int)] 49)) (some ⟨w.heap.size, 0, none⟩) 1 1 (limbs x) := by
  have R := (Row.new_of w [x] #[.int .u32 (x : Int)] (.cons hx .nil) (by simp)).lim (o := 0) (n := 1) (c := 1) (by simp) (Nat.le_refl _) (by omega)
  rw [List.drop_zero, List.take_of_length_le (by simp)] at R
  rw [limbs_one hx h0]; exact R
theorem lt64 {x : Nat} (h : x ≤ 1000) : ln x ≤ 64 := ln_tiny (by omega)
theorem f12 : Fq 1 2 := ⟨lt64 (by decide), lt64 (by decide), by decide, by decide⟩
theorem f16 : Fq 1 6 := ⟨lt64 (by decide), lt64 (by decide), by decide, by decide⟩
theorem f01 : Fq 0 1 := ⟨lt64 (by decide), lt64 (by decide), by decide, by decide⟩
theorem f23 : Fq 2 3 := ⟨lt64 (by decide), lt64 (by decide), by decide, by decide⟩
theorem red24 : red 2 4 = (1, 2, 0) := by decide
theorem red16 : red 1 6 = (1, 6, 0) := by decide
theorem add_t : addR 1 2 1 6 = (2, 3, 0) := by
  rw [addR_yes (lt64 (by decide)) (lt64 (by decide)) (lt64 (by decide)) (lt64 (by decide))]; decide
theorem sub_t : subR 1 6 1 2 = (0, 0, 1) := subR_low (lt64 (by decide)) (lt64 (by decide)) (lt64 (by decide)) (by decide)
theorem cmp_t : cmpN 1 6 1 2 = -1 := by rw [cmpN_yes (lt64 (by decide)) (lt64 (by decide))]; exact sgn_lt (by decide)
theorem cmp_e : cmpE 1 6 1 2 = 0 := cmpE_yes (lt64 (by decide)) (lt64 (by decide))
theorem dt (x : Nat) (h : x < 10) : dtext x = [48 + UInt8.ofNat x] := by
  rcases (by omega : x = 0 ∨ x = 1 ∨ x = 2 ∨ x = 3 ∨ x = 4 ∨ x = 5 ∨ x = 6 ∨ x = 7 ∨ x = 8 ∨ x = 9) with rfl | rfl | rfl | rfl | rfl | rfl | rfl | rfl | rfl | rfl
  · rw [dtext_zero]; rfl
  all_goals (rw [dtext_pos (by decide), tens_pos (by decide), tens_zero]; rfl)
theorem text_t : dtext 2 ++ 47 :: dtext 3 = [50, 47, 51] := by rw [dt 2 (by decide), dt 3 (by decide)]; rfl
theorem text_z : dtext 0 ++ 47 :: dtext 1 = [48, 47, 49] := by rw [dt 0 (by decide), dt 1 (by decide)]; rfl
theorem nofr : ¬ Fr (limbs 2) (limbs 4) := fun h => by
  have := h.2.2.2
  rw [val_limbs, val_limbs] at this
  exact absurd this (by decide)
theorem make24 {W : World} {A A' : Option Addr} {n c n' c' : Nat} (h : Lim W A n c (limbs 2)) (h' : Lim W A' n' c' (limbs 4)) : Calls Tryd.prog 25 #[.slice A n c, .slice A' n' c'] W fun e w' => RetA3 (1, 2, 0) W e w' := red24 ▸ make_yes h h' (lt64 (by decide)) (lt64 (by decide)) (by decide)
theorem make16 {W : World} {A A' : Option Addr} {n c n' c' : Nat} (h : Lim W A n c (limbs 1)) (h' : Lim W A' n' c' (limbs 6)) : Calls Tryd.prog 25 #[.slice A n c, .slice A' n' c'] W fun e w' => RetA3 (1, 6, 0) W e w' := red16 ▸ make_yes h h' (lt64 (by decide)) (lt64 (by decide)) (by decide)

end Go.Proofs.YthollkngfibgaaaDoor
