/- The walk of awake: the fixed answer of the stage. -/
import Derived.Test.YtnacokogihanoaaDoorWalkT
namespace Go.Proofs.YtnacokogihanoaaDoor
open Go.RowKit
set_option linter.unusedVariables false
set_option linter.unusedSimpArgs false

/-- Slices that lie there, with their limbs. -/
def Lies : List (Option Addr × Nat × Nat × List Nat) → World → Prop
  | [], _ => True
  | (A, n, c, xs) :: r, w => Lim w A n c xs ∧ Lies r w
theorem Lies.next {w w' : World} (hb : Below w.heap.size w w') : ∀ {l : List (Option Addr × Nat × Nat × List Nat)}, Lies l w → Lies l w'
  | [], _ => trivial
  | (_, _, _, _) :: _, h => ⟨h.1.next hb, Lies.next hb h.2⟩
/-- .. and nothing that was there has turned. -/
structure Sts (w : World) (l : List (Option Addr × Nat × Nat × List Nat)) (wx : World) : Prop where
  lie : Lies l wx
  bl : Below w.heap.size w wx
theorem Sts.start (w : World) : Sts w [] w := ⟨trivial, Below.refl _ _⟩
theorem Sts.next {w : World} {l : List (Option Addr × Nat × Nat × List Nat)} {W w1 : World} (s : Sts w l W) (hb : Below W.heap.size W w1) : Sts w l w1 := ⟨s.lie.next hb, below_step s.bl hb⟩
theorem Sts.drewN {w : World} {l : List (Option Addr × Nat × Nat × List Nat)} {W : World} (s : Sts w l W) (m : Nat) : Sts w l (W.drewN m) := s.next (below_drewN (Below.refl _ _) m)
theorem Sts.drew {w : World} {l : List (Option Addr × Nat × Nat × List Nat)} {W : World} (s : Sts w l W) : Sts w l W.drew := s.next (Below.refl _ _).drew
theorem Sts.put {w : World} {l : List (Option Addr × Nat × Nat × List Nat)} {W : World} {A : Option Addr} {n c : Nat} {xs : List Nat} (s : Sts w l W) (h : Lim W A n c xs) : Sts w ((A, n, c, xs) :: l) W := ⟨⟨h, s.lie⟩, s.bl⟩

theorem eN1 : 18446744073709551616 / 10 = 1844674407370955161 := by decide
theorem eN2 : 18446744073709551616 % 10 = 6 := by decide
theorem eN3 : 18446744073709551616 * 18446744073709551616 = 340282366920938463463374607431768211456 := by decide
theorem eN4 : Nat.gcd 12 18 = 6 := by decide
theorem lN : ln 18446744073709551616 ≤ 64 := Nat.le_trans (ln_small (by decide)) (by decide)
theorem lM : ln 340282366920938463463374607431768211456 ≤ 64 := Nat.le_trans (ln_small (by decide)) (by decide)
theorem ln_tiny {n : Nat} (h : n ≤ 1844674407370955161) : ln n ≤ 64 := Nat.le_trans (ln_small (by omega)) (by decide)
theorem read_a (w : World) : Calls Tryd.prog 16 #[.string ⟨#[49, 56, 52, 52, 54, 55, 52, 52, 48, 55, 51, 55, 48, 57, 53, 53, 49, 54, 49, 54]⟩] w fun e w' => RetE 18446744073709551616 0 w e w' := by
  have e : L ⟨#[49, 56, 52, 52, 54, 55, 52, 52, 48, 55, 51, 55, 48, 57, 53, 53, 49, 54, 49, 54]⟩ = dtext 18446744073709551616 := by rw [text_a]
  have := read_yes ⟨#[49, 56, 52, 52, 54, 55, 52, 52, 48, 55, 51, 55, 48, 57, 53, 53, 49, 54, 49, 54]⟩ (by decide) (by rw [e]; exact isT_dtext _) w
  rwa [e, rd_dtext, fitN_yes lN, fitE_yes lN] at this

set_option maxHeartbeats 4000000 in
set_option maxRecDepth 100000 in
theorem awake_any (w : World) : Calls Tryd.prog 13 #[] w fun e w' => e = .returned (.bool true) ∧ Below w.heap.size w w' := by
  have KR := Lib.hid read_a
  have K10 : Hid (∀ W, Calls Tryd.prog 23 #[.int .u64 10] W fun e w' => RetN 10 W e w') := fun W => of_any 10 (by decide) W
  have K12 : Hid (∀ W, Calls Tryd.prog 23 #[.int .u64 12] W fun e w' => RetN 12 W e w') := fun W => of_any 12 (by decide) W
  have K18 : Hid (∀ W, Calls Tryd.prog 23 #[.int .u64 18] W fun e w' => RetN 18 W e w') := fun W => of_any 18 (by decide) W
  have K1 : Hid (∀ W, Calls Tryd.prog 23 #[.int .u64 1] W fun e w' => RetN 1 W e w') := fun W => of_any 1 (by decide) W
  have K6 : Hid (∀ W, Calls Tryd.prog 23 #[.int .u64 6] W fun e w' => RetN 6 W e w') := fun W => of_any 6 (by decide) W
  go_enter Tryd.func13, Tryd.ntmps13
  go_wp2_with fail
  refine (KR.out _).mono ?_
  rintro e w1 ⟨A, n, c, rfl, LA, B1⟩
  have hn := LA.len
  rw [limbs_a] at hn
  obtain rfl : n = 3 := hn.symm
  obtain ⟨ad, rfl⟩ := LA.some_ (by decide)
  have S := ((Sts.start w).next B1).put LA
  clear hn LA B1
  go_wp2_with fail
  refine (K10.out _).mono ?_
  rintro e w2 ⟨A2, n2, c2, rfl, L2, B2⟩
  have S := (S.next B2).put L2
  clear L2 B2
  go_wp2_with fail
  refine (div_any S.lie.2.1 S.lie.1 lN (ln_tiny (by decide)) (by decide)).mono ?_
  rw [eN1, eN2]
  rintro e w3 ⟨A3, n3, c3, A4, n4, c4, rfl, L3, L4, B3⟩
  have S := ((S.next B3).put L3).put L4
  clear L3 L4 B3
  go_wp2_with fail
  have KM := mul_any S.lie.2.2.2.1 S.lie.2.2.2.1 lN lN
  rw [eN3, fitN_yes lM, fitE_yes lM] at KM
  refine KM.mono ?_
  rintro e w4 ⟨A5, n5, c5, rfl, L5, B4⟩
  have S := (S.next B4).put L5
  clear L5 B4 KM
  go_wp2_with fail
  refine (K12.out _).mono ?_
  rintro e w5 ⟨A6, n6, c6, rfl, L6, B5⟩
  have S := (S.next B5).put L6
  clear L6 B5
  go_wp2_with fail
  refine (K18.out _).mono ?_
  rintro e w6 ⟨A7, n7, c7, rfl, L7, B6⟩
  have S := (S.next B6).put L7
  clear L7 B6
  go_wp2_with fail
  have KG := gcd_any S.lie.2.1 S.lie.1 (ln_tiny (by decide)) (ln_tiny (by decide))
  rw [eN4] at KG
  refine KG.mono ?_
  rintro e w7 ⟨A8, n8, c8, rfl, L8, B7⟩
  have S := (S.next B7).put L8
  clear L8 B7 KG
  go_wp2_with fail
  refine (K1.out _).mono ?_
  rintro e w8 ⟨A9, n9, c9, rfl, L9, B8⟩
  have S := (S.next B8).put L9
  clear L9 B8
  go_wp2_with fail
  refine (sub_under (lim_zero _ none 0 (by decide)) S.lie.1 (ln_tiny (by decide)) (ln_tiny (by decide)) (by decide)).mono ?_
  rintro e w9 ⟨rfl, m, rfl⟩
  have S := S.drewN m
  go_wp2_with fail
  refine (div_zero S.lie.2.2.2.2.2.2.2.2.1 (Lim.none_ _ none 0 (by decide)) lN).mono ?_
  rintro e w10 ⟨rfl, rfl⟩
  generalize w8.drewN m = w9 at *
  have c0 := S.lie.2.2.2.2.2.2.2.2.1.cell 2 (by rw [limbs_a]; decide)
  simp only [limbs_a, List.getElem_cons_succ, List.getElem_cons_zero] at c0
  have c1 : w9.cell? ⟨ad.block, ad.off + 2, none⟩ = some (.int .u32 1) := c0
  clear c0
  go_wp2_with fail
  have KT := text_any S.lie.2.2.2.2.2.2.1 (ln_tiny (by decide))
  rw [text_q] at KT
  refine KT.mono ?_
  rintro e w10 ⟨rfl, B10⟩
  have S := S.next B10
  clear KT B10 c1
  go_wp2_with fail
  refine (K6.out _).mono ?_
  rintro e w11 ⟨A11, n11, c11, rfl, L11, B11⟩
  have S := (S.next B11).put L11
  clear L11 B11
  go_wp2_with fail
  have KS := same_bel S.lie.2.2.2.2.2.2.1 S.lie.1
  rw [sameB_yes] at KS
  refine KS.mono ?_
  rintro e w12 ⟨rfl, B12⟩
  have S := S.next B12
  clear KS B12
  go_wp2_with fail
  have KB := bits_any S.lie.2.2.2.2.2.1 lM
  rw [bl_m] at KB
  refine KB.mono ?_
  rintro e w13 ⟨rfl, rfl⟩
  clear KB
  go_wp2_with fail
  have KD := text_any S.lie.2.2.1 (ln_tiny (by decide))
  rw [text_d] at KD
  refine KD.mono ?_
  rintro e w14 ⟨rfl, B14⟩
  have S := S.next B14
  clear KD B14
  go_wp2_with fail
  have KC := cmp_bel S.lie.2.2.2.2.2.2.2.2.2.1 S.lie.2.2.2.2.2.1 lN lM
  rw [sgn_lt (by decide)] at KC
  refine KC.mono ?_
  rintro e w15 ⟨rfl, B15⟩
  have S := S.next B15
  clear KC B15
  go_wp2_with fail
  go_ret
  exact ⟨rfl, S.bl⟩
end Go.Proofs.YtnacokogihanoaaDoor
