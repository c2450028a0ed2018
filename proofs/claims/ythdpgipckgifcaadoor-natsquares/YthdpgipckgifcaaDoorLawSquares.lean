/- For every two lists of limbs the law NatSquares answers true: the difference of two squares is the product of the sum and the difference. No condition beyond the row; the tables of unicode/utf8 start as the program lays them (tied). -/
import Derived.Test.YthdpgipckgifcaaDoorBase
import Derived.Test.YthdpgipckgifcaaDoorNumL
namespace Go.Proofs.YthdpgipckgifcaaDoor.natSquares
open Go.ChangeShapes Go.WideShapes Go.ChangeAt Go.RowKit
open Go.Proofs.YthdpgipckgifcaaDoor
set_option linter.unusedVariables false
set_option linter.unusedSimpArgs false

theorem squares_eq (x y : Nat) (h : y ≤ x) : x * x - y * y = (x + y) * (x - y) := by
  obtain ⟨k, rfl⟩ : ∃ k, x = y + k := ⟨x - y, by omega⟩
  rw [Nat.add_sub_cancel_left, Nat.add_mul, Nat.mul_add, Nat.mul_add, Nat.add_mul, Nat.add_mul, Nat.mul_comm k y]
  omega
set_option maxHeartbeats 4000000 in
set_option maxRecDepth 100000 in
theorem long1 {A A' : Option Addr} {n c n' c' : Nat} {xs ys : List Nat} {w : World} (ha : Lim w A n c xs) (hb : Lim w A' n' c' ys) (h : ¬ n ≤ 30) : Calls Tryd.prog 9 #[.slice A n c, .slice A' n' c'] w fun e w' => e = .returned (.bool true) ∧ Below w.heap.size w w' := by
  have i1 : ¬ (n : Int) ≤ 30 := by omega
  clear ha hb h
  go_enter Tryd.func9, Tryd.ntmps9
  go_wp2_with fail
  refine (awake_any _).mono ?_
  rintro e w9 ⟨rfl, B9⟩
  go_wp2_with fail
  go_ret
  exact ⟨rfl, B9⟩
set_option maxHeartbeats 4000000 in
set_option maxRecDepth 100000 in
theorem long2 {A A' : Option Addr} {n c n' c' : Nat} {xs ys : List Nat} {w : World} (ha : Lim w A n c xs) (hb : Lim w A' n' c' ys) (h : n ≤ 30) (h' : ¬ n' ≤ 30) : Calls Tryd.prog 9 #[.slice A n c, .slice A' n' c'] w fun e w' => e = .returned (.bool true) ∧ Below w.heap.size w w' := by
  have i1 : (n : Int) ≤ 30 := by omega
  have i2 : ¬ (n' : Int) ≤ 30 := by omega
  clear ha hb h h'
  go_enter Tryd.func9, Tryd.ntmps9
  go_wp2_with fail
  refine (awake_any _).mono ?_
  rintro e w9 ⟨rfl, B9⟩
  go_wp2_with fail
  go_ret
  exact ⟨rfl, B9⟩
set_option maxHeartbeats 4000000 in
set_option maxRecDepth 100000 in
theorem wrong1 {A A' : Option Addr} {n c n' c' : Nat} {xs ys : List Nat} {w : World} (ha : Lim w A n c xs) (hb : Lim w A' n' c' ys) (h : n ≤ 30) (h' : n' ≤ 30) (k : ¬ Nt xs) : Calls Tryd.prog 9 #[.slice A n c, .slice A' n' c'] w fun e w' => e = .returned (.bool true) ∧ Below w.heap.size w w' := by
  have i1 : (n : Int) ≤ 30 := by omega
  have i2 : (n' : Int) ≤ 30 := by omega
  have RA := Lib.hid (right_no ha k)
  clear ha hb h h' k
  go_enter Tryd.func9, Tryd.ntmps9
  go_wp2_with fail
  refine RA.out.mono ?_
  rintro e w' ⟨rfl, rfl⟩
  go_wp2_with fail
  refine (awake_any _).mono ?_
  rintro e w9 ⟨rfl, B9⟩
  go_wp2_with fail
  go_ret
  exact ⟨rfl, B9⟩
set_option maxHeartbeats 4000000 in
set_option maxRecDepth 100000 in
theorem wrong2 {A A' : Option Addr} {n c n' c' : Nat} {xs ys : List Nat} {w : World} (ha : Lim w A n c xs) (hb : Lim w A' n' c' ys) (h : n ≤ 30) (h' : n' ≤ 30) (k : Nt xs) (k' : ¬ Nt ys) : Calls Tryd.prog 9 #[.slice A n c, .slice A' n' c'] w fun e w' => e = .returned (.bool true) ∧ Below w.heap.size w w' := by
  have i1 : (n : Int) ≤ 30 := by omega
  have i2 : (n' : Int) ≤ 30 := by omega
  have RA := Lib.hid (right_yes (k.eq ha.lo ▸ ha) (by unfold ln; rw [← k.eq ha.lo]; exact k.1))
  have RB := Lib.hid (right_no hb k')
  clear ha hb h h' k k'
  go_enter Tryd.func9, Tryd.ntmps9
  go_wp2_with fail
  refine RA.out.mono ?_
  rintro e w' ⟨rfl, rfl⟩
  go_wp2_with fail
  refine RB.out.mono ?_
  rintro e w' ⟨rfl, rfl⟩
  go_wp2_with fail
  refine (awake_any _).mono ?_
  rintro e w9 ⟨rfl, B9⟩
  go_wp2_with fail
  go_ret
  exact ⟨rfl, B9⟩
set_option maxHeartbeats 8000000 in
set_option maxRecDepth 100000 in
theorem up {A A' : Option Addr} {n c n' c' a b : Nat} {w : World} (ha : Lim w A n c (limbs a)) (hb : Lim w A' n' c' (limbs b)) (la : ln a ≤ 30) (lb : ln b ≤ 30) (h : b ≤ a) :
    Calls Tryd.prog 9 #[.slice A n c, .slice A' n' c'] w fun e w' => e = .returned (.bool true) ∧ Below w.heap.size w w' := by
  have hl := ha.len; have hl' := hb.len
  rw [limbs_length] at hl hl'
  have i1 : (n : Int) ≤ 30 := by omega
  have i2 : (n' : Int) ≤ 30 := by omega
  have RA := Lib.hid (right_yes ha (by omega)); have RB := Lib.hid (right_yes hb (by omega))
  have S := ((Sts.start w).put ha).put hb
  have KC := cmp_bel ha hb (by omega) (by omega)
  have hs : ¬ sgn a b < 0 := by
    rcases Nat.lt_or_eq_of_le h with k | k
    · rw [sgn_gt k]; omega
    · rw [k, sgn_eq]; omega
  generalize sgn a b = sg at *
  have KC := Lib.hid KC
  have l1 := ln_mul la la
  have l2 := ln_mul lb lb
  have l3 := ln_add la lb
  have hle : b ≤ a := by omega
  have l4 := ln_mono (show a - b ≤ a by omega)
  have l5 := ln_mul l3 (Nat.le_trans l4 la)
  have l6 := ln_mono (show a * a - b * b ≤ a * a by omega)
  have hsq : b * b ≤ a * a := Nat.mul_le_mul hle hle
  have EQ := Lib.hid (squares_eq a b hle)
  clear ha hb hl hl'
  go_enter Tryd.func9, Tryd.ntmps9
  go_wp2_with fail
  refine RA.out.mono ?_
  rintro e w' ⟨rfl, rfl⟩
  go_wp2_with fail
  refine RB.out.mono ?_
  rintro e w' ⟨rfl, rfl⟩
  go_wp2_with fail
  refine KC.out.mono ?_
  rintro e w1 ⟨rfl, B1⟩
  have S := S.next B1
  clear B1
  go_wp2_with fail
  have K2 := mul_any S.lie.2.1 S.lie.2.1 (by omega) (by omega)
  rw [fitN_yes (by omega), fitE_yes (by omega)] at K2
  refine K2.mono ?_
  clear K2
  rintro e w2 ⟨A2, n2, c2, rfl, L2, B2⟩
  have S := (S.next B2).put L2
  clear L2 B2
  go_wp2_with fail
  have K3 := mul_any S.lie.2.1 S.lie.2.1 (by omega) (by omega)
  rw [fitN_yes (by omega), fitE_yes (by omega)] at K3
  refine K3.mono ?_
  clear K3
  rintro e w3 ⟨A3, n3, c3, rfl, L3, B3⟩
  have S := (S.next B3).put L3
  clear L3 B3
  go_wp2_with fail
  have K4 := sub_any S.lie.2.1 S.lie.1 (by omega) (by omega) hsq
  refine K4.mono ?_
  clear K4
  rintro e w4 ⟨A4, n4, c4, rfl, L4, B4⟩
  have S := (S.next B4).put L4
  clear L4 B4
  go_wp2_with fail
  have K5 := add_any S.lie.2.2.2.2.1 S.lie.2.2.2.1 (by omega) (by omega)
  rw [fitN_yes (by omega), fitE_yes (by omega)] at K5
  refine K5.mono ?_
  clear K5
  rintro e w5 ⟨A5, n5, c5, rfl, L5, B5⟩
  have S := (S.next B5).put L5
  clear L5 B5
  go_wp2_with fail
  have K6 := sub_any S.lie.2.2.2.2.2.1 S.lie.2.2.2.2.1 (by omega) (by omega) hle
  refine K6.mono ?_
  clear K6
  rintro e w6 ⟨A6, n6, c6, rfl, L6, B6⟩
  have S := (S.next B6).put L6
  clear L6 B6
  go_wp2_with fail
  have K7 := mul_any S.lie.2.1 S.lie.1 (by omega) (by omega)
  rw [fitN_yes (by omega), fitE_yes (by omega)] at K7
  refine K7.mono ?_
  clear K7
  rintro e w7 ⟨A7, n7, c7, rfl, L7, B7⟩
  have S := (S.next B7).put L7
  clear L7 B7
  go_wp2_with fail
  have K8 := same_bel S.lie.2.2.2.1 S.lie.1
  rw [EQ.out, sameB_yes] at K8
  refine K8.mono ?_
  clear K8
  rintro e w8 ⟨rfl, B8⟩
  have S := S.next B8
  clear B8
  go_wp2_with fail
  refine (awake_any _).mono ?_
  rintro e w9 ⟨rfl, B9⟩
  go_wp2_with fail
  go_ret
  exact ⟨rfl, below_step S.bl B9⟩
set_option maxHeartbeats 8000000 in
set_option maxRecDepth 100000 in
theorem down {A A' : Option Addr} {n c n' c' a b : Nat} {w : World} (ha : Lim w A n c (limbs a)) (hb : Lim w A' n' c' (limbs b)) (la : ln a ≤ 30) (lb : ln b ≤ 30) (h : a < b) :
    Calls Tryd.prog 9 #[.slice A n c, .slice A' n' c'] w fun e w' => e = .returned (.bool true) ∧ Below w.heap.size w w' := by
  have hl := ha.len; have hl' := hb.len
  rw [limbs_length] at hl hl'
  have i1 : (n : Int) ≤ 30 := by omega
  have i2 : (n' : Int) ≤ 30 := by omega
  have RA := Lib.hid (right_yes ha (by omega)); have RB := Lib.hid (right_yes hb (by omega))
  have S := ((Sts.start w).put ha).put hb
  have KC := cmp_bel ha hb (by omega) (by omega)
  rw [sgn_lt h] at KC
  have KC := Lib.hid KC
  have l1 := ln_mul lb lb
  have l2 := ln_mul la la
  have l3 := ln_add lb la
  have hle : a ≤ b := by omega
  have l4 := ln_mono (show b - a ≤ b by omega)
  have l5 := ln_mul l3 (Nat.le_trans l4 lb)
  have l6 := ln_mono (show b * b - a * a ≤ b * b by omega)
  have hsq : a * a ≤ b * b := Nat.mul_le_mul hle hle
  have EQ := Lib.hid (squares_eq b a hle)
  clear ha hb hl hl'
  go_enter Tryd.func9, Tryd.ntmps9
  go_wp2_with fail
  refine RA.out.mono ?_
  rintro e w' ⟨rfl, rfl⟩
  go_wp2_with fail
  refine RB.out.mono ?_
  rintro e w' ⟨rfl, rfl⟩
  go_wp2_with fail
  refine KC.out.mono ?_
  rintro e w1 ⟨rfl, B1⟩
  have S := S.next B1
  clear B1
  go_wp2_with fail
  have K2 := mul_any S.lie.1 S.lie.1 (by omega) (by omega)
  rw [fitN_yes (by omega), fitE_yes (by omega)] at K2
  refine K2.mono ?_
  clear K2
  rintro e w2 ⟨A2, n2, c2, rfl, L2, B2⟩
  have S := (S.next B2).put L2
  clear L2 B2
  go_wp2_with fail
  have K3 := mul_any S.lie.2.2.1 S.lie.2.2.1 (by omega) (by omega)
  rw [fitN_yes (by omega), fitE_yes (by omega)] at K3
  refine K3.mono ?_
  clear K3
  rintro e w3 ⟨A3, n3, c3, rfl, L3, B3⟩
  have S := (S.next B3).put L3
  clear L3 B3
  go_wp2_with fail
  have K4 := sub_any S.lie.2.1 S.lie.1 (by omega) (by omega) hsq
  refine K4.mono ?_
  clear K4
  rintro e w4 ⟨A4, n4, c4, rfl, L4, B4⟩
  have S := (S.next B4).put L4
  clear L4 B4
  go_wp2_with fail
  have K5 := add_any S.lie.2.2.2.1 S.lie.2.2.2.2.1 (by omega) (by omega)
  rw [fitN_yes (by omega), fitE_yes (by omega)] at K5
  refine K5.mono ?_
  clear K5
  rintro e w5 ⟨A5, n5, c5, rfl, L5, B5⟩
  have S := (S.next B5).put L5
  clear L5 B5
  go_wp2_with fail
  have K6 := sub_any S.lie.2.2.2.2.1 S.lie.2.2.2.2.2.1 (by omega) (by omega) hle
  refine K6.mono ?_
  clear K6
  rintro e w6 ⟨A6, n6, c6, rfl, L6, B6⟩
  have S := (S.next B6).put L6
  clear L6 B6
  go_wp2_with fail
  have K7 := mul_any S.lie.2.1 S.lie.1 (by omega) (by omega)
  rw [fitN_yes (by omega), fitE_yes (by omega)] at K7
  refine K7.mono ?_
  clear K7
  rintro e w7 ⟨A7, n7, c7, rfl, L7, B7⟩
  have S := (S.next B7).put L7
  clear L7 B7
  go_wp2_with fail
  have K8 := same_bel S.lie.2.2.2.1 S.lie.1
  rw [EQ.out, sameB_yes] at K8
  refine K8.mono ?_
  clear K8
  rintro e w8 ⟨rfl, B8⟩
  have S := S.next B8
  clear B8
  go_wp2_with fail
  refine (awake_any _).mono ?_
  rintro e w9 ⟨rfl, B9⟩
  go_wp2_with fail
  go_ret
  exact ⟨rfl, below_step S.bl B9⟩
theorem main {A A' : Option Addr} {n c n' c' a b : Nat} {w : World} (ha : Lim w A n c (limbs a)) (hb : Lim w A' n' c' (limbs b)) (la : ln a ≤ 30) (lb : ln b ≤ 30) :
    Calls Tryd.prog 9 #[.slice A n c, .slice A' n' c'] w fun e w' => e = .returned (.bool true) ∧ Below w.heap.size w w' := by
  by_cases h : b ≤ a
  · exact up ha hb la lb h
  · exact down ha hb la lb (by omega)
theorem walk {A A' : Option Addr} {n c n' c' : Nat} {xs ys : List Nat} {w : World} (ha : Lim w A n c xs) (hb : Lim w A' n' c' ys) : Calls Tryd.prog 9 #[.slice A n c, .slice A' n' c'] w fun e w' => e = .returned (.bool true) ∧ Below w.heap.size w w' := by
  by_cases h1 : n ≤ 30
  · by_cases h2 : n' ≤ 30
    · by_cases k1 : Nt xs
      · by_cases k2 : Nt ys
        · have e1 := k1.eq ha.lo
          have e2 := k2.eq hb.lo
          have l1 : ln (val xs) = n := by rw [← limbs_length, ← e1]; exact ha.len
          have l2 : ln (val ys) = n' := by rw [← limbs_length, ← e2]; exact hb.len
          exact main (e1 ▸ ha) (e2 ▸ hb) (by omega) (by omega)
        · exact wrong2 ha hb h1 h2 k1 k2
      · exact wrong1 ha hb h1 h2 k1
    · exact long2 ha hb h1 h2
  · exact long1 ha hb h1

set_option maxRecDepth 100000 in
theorem lifted (os : Os) (started : os.Started) (H : Type) (enc : TypeId × Value → H) :
    ReturnsInHanded {} Tryd.checked os 9 .any (fun w args => (Rows.natSquaresSpec.pre enc Tryd.prog Tryd.f9 Rows.natSquaresRow.domain false w args ∧ laidMetH Tryd.prog Rows.natSquaresRow.laid w) ∧ sizedMet enc Tryd.prog Tryd.f9 (OpenSpec.ofChange Rows.natSquaresSpec) false w args)
      (Rows.natSquaresSpec.post enc Tryd.prog Tryd.f9 false true false false) := by
  refine returnsInHanded_of_change_and (C := Tryd.checked) (X := fun w _ => laidMetH Tryd.prog Rows.natSquaresRow.laid w) (fun _ _ _ hh h => h.of_heap hh) own started (by kernel_rfl) Tryd.func9
    (ChangeSpec.witness_shaped (enc := enc) (C := Tryd.checked) (os := os) (X := fun w _ => laidMetH Tryd.prog Rows.natSquaresRow.laid w) false (World.laidAll Tryd.prog os Rows.natSquaresRow.laid) #[.slice none 0 0, .slice none 0 0] 8 (World.laidAll_os _ _ _)
      (World.shaped_of_ZipB (by kernel_rfl) (by kernel_rfl)) (by kernel_rfl) (by kernel_rfl) (by kernel_rfl)
      (by rw [MakeChecks.laidMetH_plain _ _ _ (by kernel_rfl)]; exact laidMet_laidAll _ (by kernel_rfl) (by kernel_rfl))) ?_
  intro W base args ds gs before hval0 hW _ _ _ _
  have hval : ∀ (j : Nat) t v, Tryd.f9.params[j]? = some t → args[j]? = some v → Value.okWide Tryd.prog W .any base t v := hval0
  have hW' := hW
  obtain ⟨p, q, hA0, hV, rfl, _, _⟩ := hW
  have hA : DataW.TrodAll enc Tryd.prog W 0 (fun _ => true) true Tryd.f9.params.toList args.toList ds p := hA0
  rw [Tryd.params9] at hA hval
  obtain ⟨v0, v1, d0, d1, p0, p1, rfl, rfl, rfl, h0, h1⟩ := trodAll_two hA
  obtain ⟨rfl, rfl⟩ := trodVars_none hV
  obtain ⟨A, n, c, xs, rfl, ha⟩ := open_nat (hval 0 23 v0 rfl rfl) h0
  obtain ⟨A', n', c', ys, rfl, hb⟩ := open_nat (hval 1 23 v1 rfl rfl) h1
  clear hA0 hval0
  simp only [List.append_nil] at hW'
  have hlt : ∀ x ∈ p0 ++ p1, x.block < W.heap.size := fun x hx => by simpa using hW'.lt x hx
  refine (walk ha hb).mono fun e W' ⟨he, hbl⟩ => ?_
  subst he
  refine ⟨_, rfl, post_args hW' (fun _ _ _ => trodAll_mk1 (shut_bool Tryd.underlying4 _)) ?_ (fun _ => rfl) hbl⟩
  have t0 := Below.trod laidOut readable typed h0 hbl (fun x hx => hlt x (List.mem_append_left _ hx))
  have t1 := Below.trod laidOut readable typed h1 hbl (fun x hx => hlt x (List.mem_append_right _ hx))
  exact trodAll_mk2 t0 t1

theorem holds : Rows.NatSquaresSaid :=
  OpenClaim.holds_of_wide 9 Tryd.f9 rfl rfl rfl rfl rfl rfl rfl ⟨rfl, rfl, rfl, rfl, rfl⟩ rfl rfl rfl rfl rfl (by kernel_rfl) Tryd.func9 (by kernel_rfl)
    (of_decide_eq_true (by kernel_rfl)) (by unfold Func.isWrapper; first | (rw [if_pos (by decide +kernel)]; kernel_rfl) | (rw [if_neg (by decide +kernel)]; exact ⟨rfl, rfl⟩))
    (fun os started H enc _ => lifted os started H enc)
theorem proved : Rows.NatSquaresCardSaid :=
  Claim7.holds_tied_plain_at .later [] [.data, .pinned] true (true, "77147d39bdb4dc4e6390641f605e895d81b9491c8fbdada3086ea5a4c105b776") false
    holds (fun _ h => by cases h) (by kernel_rfl) (fun _ h => by cases h) natSquares_row_tie rfl ⟨rfl, rfl⟩ (by kernel_rfl) rfl
    (fun f fn hf hfn => by
      obtain rfl : f = 9 := Option.some.inj ((show Tryd.prog.funcNamed "samphire/samphirelaw02.NatSquares" = some 9 by kernel_rfl).symm.trans hf) |>.symm
      obtain rfl : fn = Tryd.f9 := (Option.some.inj (Tryd.func9.symm.trans hfn)).symm
      exact ⟨by kernel_rfl, fun j t ht => by
        rw [Tryd.params9] at ht
        have h3 : t = 23 := by
          rcases j with _ | _ | j
          · simpa using ht.symm
          · simpa using ht.symm
          · simp at ht
        subst h3
        exact (show Tryd.prog.wantsStandIn 23 = false by kernel_rfl)⟩)
    (by kernel_rfl)
#print axioms proved
end Go.Proofs.YthdpgipckgifcaaDoor.natSquares
