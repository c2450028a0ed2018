/- For every two lists of limbs the law NatCommon answers true: what goes in both goes in each without a rest. No condition beyond the row; the tables of unicode/utf8 start as the program lays them (tied). -/
import Derived.Test.YthdpgipckgifcaaDoorBase
import Derived.Test.YthdpgipckgifcaaDoorNumL
namespace Go.Proofs.YthdpgipckgifcaaDoor.natCommon
open Go.ChangeShapes Go.WideShapes Go.ChangeAt Go.RowKit
open Go.Proofs.YthdpgipckgifcaaDoor
set_option linter.unusedVariables false
set_option linter.unusedSimpArgs false

theorem common (a b g : Nat) (h : Nat.gcd a b = g) (hg : 0 < g) : a % g = 0 ∧ b % g = 0 ∧ Nat.gcd (a / g) (b / g) = 1 := by
  have d1 : g ∣ a := by rw [← h]; exact Nat.gcd_dvd_left a b
  have d2 : g ∣ b := by rw [← h]; exact Nat.gcd_dvd_right a b
  refine ⟨Nat.mod_eq_zero_of_dvd d1, Nat.mod_eq_zero_of_dvd d2, ?_⟩
  have e1 := Nat.mul_div_cancel' d1
  have e2 := Nat.mul_div_cancel' d2
  have e3 : Nat.gcd (g * (a / g)) (g * (b / g)) = g * Nat.gcd (a / g) (b / g) := Nat.gcd_mul_left _ _ _
  rw [e1, e2, h] at e3
  have : g * Nat.gcd (a / g) (b / g) = g * 1 := by rw [← e3, Nat.mul_one]
  exact Nat.eq_of_mul_eq_mul_left hg this
set_option maxHeartbeats 4000000 in
set_option maxRecDepth 100000 in
theorem long1 {A A' : Option Addr} {n c n' c' : Nat} {xs ys : List Nat} {w : World} (ha : Lim w A n c xs) (hb : Lim w A' n' c' ys) (h : ¬ n ≤ 20) : Calls Tryd.prog 7 #[.slice A n c, .slice A' n' c'] w fun e w' => e = .returned (.bool true) ∧ Below w.heap.size w w' := by
  have i1 : ¬ (n : Int) ≤ 20 := by omega
  clear ha hb h
  go_enter Tryd.func7, Tryd.ntmps7
  go_wp2_with fail
  refine (awake_any _).mono ?_
  rintro e w9 ⟨rfl, B9⟩
  go_wp2_with fail
  go_ret
  exact ⟨rfl, B9⟩
set_option maxHeartbeats 4000000 in
set_option maxRecDepth 100000 in
theorem long2 {A A' : Option Addr} {n c n' c' : Nat} {xs ys : List Nat} {w : World} (ha : Lim w A n c xs) (hb : Lim w A' n' c' ys) (h : n ≤ 20) (h' : ¬ n' ≤ 20) : Calls Tryd.prog 7 #[.slice A n c, .slice A' n' c'] w fun e w' => e = .returned (.bool true) ∧ Below w.heap.size w w' := by
  have i1 : (n : Int) ≤ 20 := by omega
  have i2 : ¬ (n' : Int) ≤ 20 := by omega
  clear ha hb h h'
  go_enter Tryd.func7, Tryd.ntmps7
  go_wp2_with fail
  refine (awake_any _).mono ?_
  rintro e w9 ⟨rfl, B9⟩
  go_wp2_with fail
  go_ret
  exact ⟨rfl, B9⟩
set_option maxHeartbeats 4000000 in
set_option maxRecDepth 100000 in
theorem wrong1 {A A' : Option Addr} {n c n' c' : Nat} {xs ys : List Nat} {w : World} (ha : Lim w A n c xs) (hb : Lim w A' n' c' ys) (h : n ≤ 20) (h' : n' ≤ 20) (k : ¬ Nt xs) : Calls Tryd.prog 7 #[.slice A n c, .slice A' n' c'] w fun e w' => e = .returned (.bool true) ∧ Below w.heap.size w w' := by
  have i1 : (n : Int) ≤ 20 := by omega
  have i2 : (n' : Int) ≤ 20 := by omega
  have RA := Lib.hid (right_no ha k)
  clear ha hb h h' k
  go_enter Tryd.func7, Tryd.ntmps7
  go_wp2_with fail
  refine RA.out.mono ?_
  rintro e w' ⟨rfl, rfl⟩
  go_wp2_with fail
  refine (awake_any _).mono ?_
  rintro e w9 ⟨rfl, B9⟩
  go_wp2_with fail
  go_ret
  exact ⟨rfl, B9⟩
set_option maxHeartbeats 4000000 in
set_option maxRecDepth 100000 in
theorem wrong2 {A A' : Option Addr} {n c n' c' : Nat} {xs ys : List Nat} {w : World} (ha : Lim w A n c xs) (hb : Lim w A' n' c' ys) (h : n ≤ 20) (h' : n' ≤ 20) (k : Nt xs) (k' : ¬ Nt ys) : Calls Tryd.prog 7 #[.slice A n c, .slice A' n' c'] w fun e w' => e = .returned (.bool true) ∧ Below w.heap.size w w' := by
  have i1 : (n : Int) ≤ 20 := by omega
  have i2 : (n' : Int) ≤ 20 := by omega
  have RA := Lib.hid (right_yes (k.eq ha.lo ▸ ha) (by unfold ln; rw [← k.eq ha.lo]; exact k.1))
  have RB := Lib.hid (right_no hb k')
  clear ha hb h h' k k'
  go_enter Tryd.func7, Tryd.ntmps7
  go_wp2_with fail
  refine RA.out.mono ?_
  rintro e w' ⟨rfl, rfl⟩
  go_wp2_with fail
  refine RB.out.mono ?_
  rintro e w' ⟨rfl, rfl⟩
  go_wp2_with fail
  refine (awake_any _).mono ?_
  rintro e w9 ⟨rfl, B9⟩
  go_wp2_with fail
  go_ret
  exact ⟨rfl, B9⟩
set_option maxHeartbeats 8000000 in
set_option maxRecDepth 100000 in
theorem none_ {A A' : Option Addr} {n c n' c' a b : Nat} {w : World} (ha : Lim w A n c (limbs a)) (hb : Lim w A' n' c' (limbs b)) (la : ln a ≤ 20) (lb : ln b ≤ 20) (h : a = 0 ∧ b = 0) :
    Calls Tryd.prog 7 #[.slice A n c, .slice A' n' c'] w fun e w' => e = .returned (.bool true) ∧ Below w.heap.size w w' := by
  have hl := ha.len; have hl' := hb.len
  rw [limbs_length] at hl hl'
  have i1 : (n : Int) ≤ 20 := by omega
  have i2 : (n' : Int) ≤ 20 := by omega
  have RA := Lib.hid (right_yes ha (by omega)); have RB := Lib.hid (right_yes hb (by omega))
  have S := ((Sts.start w).put ha).put hb
  obtain ⟨rfl, rfl⟩ := h
  rw [ln_zero] at hl hl'
  subst hl hl'
  clear ha hb
  go_enter Tryd.func7, Tryd.ntmps7
  go_wp2_with fail
  refine RA.out.mono ?_
  rintro e w' ⟨rfl, rfl⟩
  go_wp2_with fail
  refine RB.out.mono ?_
  rintro e w' ⟨rfl, rfl⟩
  go_wp2_with fail
  refine (awake_any _).mono ?_
  rintro e w9 ⟨rfl, B9⟩
  go_wp2_with fail
  go_ret
  exact ⟨rfl, below_step S.bl B9⟩
set_option maxHeartbeats 8000000 in
set_option maxRecDepth 100000 in
theorem some_ {A A' : Option Addr} {n c n' c' a b : Nat} {w : World} (ha : Lim w A n c (limbs a)) (hb : Lim w A' n' c' (limbs b)) (la : ln a ≤ 20) (lb : ln b ≤ 20) (h : ¬ (a = 0 ∧ b = 0)) :
    Calls Tryd.prog 7 #[.slice A n c, .slice A' n' c'] w fun e w' => e = .returned (.bool true) ∧ Below w.heap.size w w' := by
  have hl := ha.len; have hl' := hb.len
  rw [limbs_length] at hl hl'
  have i1 : (n : Int) ≤ 20 := by omega
  have i2 : (n' : Int) ≤ 20 := by omega
  have RA := Lib.hid (right_yes ha (by omega)); have RB := Lib.hid (right_yes hb (by omega))
  have S := ((Sts.start w).put ha).put hb
  have h0 : (((n : Int) + (n' : Int)) == 0) = false := by
    have e1 : n = 0 → a = 0 := fun q => ln_eq_zero (by omega)
    have e2 : n' = 0 → b = 0 := fun q => ln_eq_zero (by omega)
    simp
    omega
  obtain ⟨g, hg⟩ : ∃ g, Nat.gcd a b = g := ⟨_, rfl⟩
  have gp : 0 < g := by rw [← hg]; exact Nat.gcd_pos_iff.2 (by omega)
  have g0 : g ≠ 0 := by omega
  obtain ⟨m1, m2, m3⟩ := common a b g hg gp
  have lg : ln g ≤ 20 := by
    by_cases z : a = 0
    · have : g ≤ b := by rw [← hg]; exact Nat.gcd_le_right _ (by omega)
      exact Nat.le_trans (ln_mono this) lb
    · have : g ≤ a := by rw [← hg]; exact Nat.gcd_le_left _ (by omega)
      exact Nat.le_trans (ln_mono this) la
  have lx := Nat.le_trans (ln_mono (Nat.div_le_self a g)) la
  have ly := Nat.le_trans (ln_mono (Nat.div_le_self b g)) lb
  have M1 := Lib.hid m1; have M2 := Lib.hid m2; have M3 := Lib.hid m3; have HG := Lib.hid hg
  have HG2 : Hid (Nat.gcd b a = g) := by unfold Hid; rw [Nat.gcd_comm]; exact hg
  have R1 : Hid (∀ W : World, Row (W.alloc (.cells #[.int .u32 1] 46)) W.heap.size [1]) := fun W => Row.new_of W [1] _ (.cons (by decide) .nil) (by simp)
  have E1 := Lib.hid (limbs_one (x := 1) (by decide) (by decide))
  clear ha hb hl hl' hg m1 m2 m3 h
  go_enter Tryd.func7, Tryd.ntmps7
  go_wp2_with fail
  refine RA.out.mono ?_
  rintro e w' ⟨rfl, rfl⟩
  go_wp2_with fail
  refine RB.out.mono ?_
  rintro e w' ⟨rfl, rfl⟩
  go_wp2_with fail
  have K1 := gcd_any S.lie.2.1 S.lie.1 (by omega) (by omega)
  rw [HG.out] at K1
  refine K1.mono ?_
  clear K1
  rintro e w1 ⟨A1, n1, c1, rfl, L1, B1⟩
  have S := (S.next B1).put L1
  clear L1 B1
  go_wp2_with fail
  have K2 := div_any S.lie.2.2.1 S.lie.1 (by omega) (by omega) g0
  rw [M1.out] at K2
  refine K2.mono ?_
  clear K2
  rintro e w2 ⟨A2, n2, c2, A3, n3, c3, rfl, L2, L3, B2⟩
  have z3 := L3.len
  rw [limbs_zero] at z3
  obtain rfl : n3 = 0 := z3.symm
  have S := ((S.next B2).put L2).put L3
  clear L2 L3 B2 z3
  go_wp2_with fail
  have K4 := div_any S.lie.2.2.2.1 S.lie.2.2.1 (by omega) (by omega) g0
  rw [M2.out] at K4
  refine K4.mono ?_
  clear K4
  rintro e w4 ⟨A4, n4, c4, A5, n5, c5, rfl, L4, L5, B4⟩
  have z5 := L5.len
  rw [limbs_zero] at z5
  obtain rfl : n5 = 0 := z5.symm
  have S := ((S.next B4).put L4).put L5
  clear L4 L5 B4 z5
  go_wp2_with fail
  have K6 := gcd_any S.lie.2.2.2.1 S.lie.2.1 (by omega) (by omega)
  rw [M3.out] at K6
  refine K6.mono ?_
  clear K6
  rintro e w6 ⟨A6, n6, c6, rfl, L6, B6⟩
  have S := (S.next B6).put L6
  clear L6 B6
  go_wp2_with fail
  have K7 := gcd_any S.lie.2.2.2.2.2.2.1 S.lie.2.2.2.2.2.2.2.1 (by omega) (by omega)
  rw [HG2.out] at K7
  refine K7.mono ?_
  clear K7
  rintro e w7 ⟨A7, n7, c7, rfl, L7, B7⟩
  have S := (S.next B7).put L7
  clear L7 B7
  go_wp2_with fail
  have R := (R1.out w7).lim (o := 0) (n := 1) (c := 1) (by simp) (Nat.le_refl _) (by omega)
  rw [List.drop_zero, List.take_of_length_le (by simp)] at R
  have S := (S.next ((Below.refl _ _).alloc (Nat.le_refl _) (.cells #[.int .u32 1] 46))).put R
  clear R
  have K8 := same_bel S.lie.2.2.1 S.lie.1
  rw [E1.out, sameB_yes] at K8
  refine K8.mono ?_
  clear K8
  rintro e w8 ⟨rfl, B8⟩
  have S := S.next B8
  clear B8
  go_wp2_with fail
  have K9 := same_bel S.lie.2.1 S.lie.2.2.2.2.2.2.2.1
  rw [sameB_yes] at K9
  refine K9.mono ?_
  clear K9
  rintro e w9 ⟨rfl, B9⟩
  have S := S.next B9
  clear B9
  go_wp2_with fail
  refine (awake_any _).mono ?_
  rintro e w11 ⟨rfl, B11⟩
  go_wp2_with fail
  go_ret
  exact ⟨rfl, below_step S.bl B11⟩
theorem main {A A' : Option Addr} {n c n' c' a b : Nat} {w : World} (ha : Lim w A n c (limbs a)) (hb : Lim w A' n' c' (limbs b)) (la : ln a ≤ 20) (lb : ln b ≤ 20) :
    Calls Tryd.prog 7 #[.slice A n c, .slice A' n' c'] w fun e w' => e = .returned (.bool true) ∧ Below w.heap.size w w' := by
  by_cases h : a = 0 ∧ b = 0
  · exact none_ ha hb la lb h
  · exact some_ ha hb la lb h
theorem walk {A A' : Option Addr} {n c n' c' : Nat} {xs ys : List Nat} {w : World} (ha : Lim w A n c xs) (hb : Lim w A' n' c' ys) : Calls Tryd.prog 7 #[.slice A n c, .slice A' n' c'] w fun e w' => e = .returned (.bool true) ∧ Below w.heap.size w w' := by
  by_cases h1 : n ≤ 20
  · by_cases h2 : n' ≤ 20
    · by_cases k1 : Nt xs
      · by_cases k2 : Nt ys
        · have e1 := k1.eq ha.lo
          have e2 := k2.eq hb.lo
          have l1 : ln (val xs) = n := by rw [← limbs_length, ← e1]; exact ha.len
          have l2 : ln (val ys) = n' := by rw [← limbs_length, ← e2]; exact hb.len
          exact main (e1 ▸ ha) (e2 ▸ hb) (by omega) (by omega)
        · exact wrong2 ha hb h1 h2 k1 k2
      · exact wrong1 ha hb h1 h2 k1
    · exact long2 ha hb h1 h2
  · exact long1 ha hb h1

set_option maxRecDepth 100000 in
theorem lifted (os : Os) (started : os.Started) (H : Type) (enc : TypeId × Value → H) :
    ReturnsInHanded {} Tryd.checked os 7 .any (fun w args => (Rows.natCommonSpec.pre enc Tryd.prog Tryd.f7 Rows.natCommonRow.domain false w args ∧ laidMetH Tryd.prog Rows.natCommonRow.laid w) ∧ sizedMet enc Tryd.prog Tryd.f7 (OpenSpec.ofChange Rows.natCommonSpec) false w args)
      (Rows.natCommonSpec.post enc Tryd.prog Tryd.f7 false true false false) := by
  refine returnsInHanded_of_change_and (C := Tryd.checked) (X := fun w _ => laidMetH Tryd.prog Rows.natCommonRow.laid w) (fun _ _ _ hh h => h.of_heap hh) own started (by kernel_rfl) Tryd.func7
    (ChangeSpec.witness_shaped (enc := enc) (C := Tryd.checked) (os := os) (X := fun w _ => laidMetH Tryd.prog Rows.natCommonRow.laid w) false (World.laidAll Tryd.prog os Rows.natCommonRow.laid) #[.slice none 0 0, .slice none 0 0] 8 (World.laidAll_os _ _ _)
      (World.shaped_of_ZipB (by kernel_rfl) (by kernel_rfl)) (by kernel_rfl) (by kernel_rfl) (by kernel_rfl)
      (by rw [MakeChecks.laidMetH_plain _ _ _ (by kernel_rfl)]; exact laidMet_laidAll _ (by kernel_rfl) (by kernel_rfl))) ?_
  intro W base args ds gs before hval0 hW _ _ _ _
  have hval : ∀ (j : Nat) t v, Tryd.f7.params[j]? = some t → args[j]? = some v → Value.okWide Tryd.prog W .any base t v := hval0
  have hW' := hW
  obtain ⟨p, q, hA0, hV, rfl, _, _⟩ := hW
  have hA : DataW.TrodAll enc Tryd.prog W 0 (fun _ => true) true Tryd.f7.params.toList args.toList ds p := hA0
  rw [Tryd.params7] at hA hval
  obtain ⟨v0, v1, d0, d1, p0, p1, rfl, rfl, rfl, h0, h1⟩ := trodAll_two hA
  obtain ⟨rfl, rfl⟩ := trodVars_none hV
  obtain ⟨A, n, c, xs, rfl, ha⟩ := open_nat (hval 0 23 v0 rfl rfl) h0
  obtain ⟨A', n', c', ys, rfl, hb⟩ := open_nat (hval 1 23 v1 rfl rfl) h1
  clear hA0 hval0
  simp only [List.append_nil] at hW'
  have hlt : ∀ x ∈ p0 ++ p1, x.block < W.heap.size := fun x hx => by simpa using hW'.lt x hx
  refine (walk ha hb).mono fun e W' ⟨he, hbl⟩ => ?_
  subst he
  refine ⟨_, rfl, post_args hW' (fun _ _ _ => trodAll_mk1 (shut_bool Tryd.underlying4 _)) ?_ (fun _ => rfl) hbl⟩
  have t0 := Below.trod laidOut readable typed h0 hbl (fun x hx => hlt x (List.mem_append_left _ hx))
  have t1 := Below.trod laidOut readable typed h1 hbl (fun x hx => hlt x (List.mem_append_right _ hx))
  exact trodAll_mk2 t0 t1

theorem holds : Rows.NatCommonSaid :=
  OpenClaim.holds_of_wide 7 Tryd.f7 rfl rfl rfl rfl rfl rfl rfl ⟨rfl, rfl, rfl, rfl, rfl⟩ rfl rfl rfl rfl rfl (by kernel_rfl) Tryd.func7 (by kernel_rfl)
    (of_decide_eq_true (by kernel_rfl)) (by unfold Func.isWrapper; first | (rw [if_pos (by decide +kernel)]; kernel_rfl) | (rw [if_neg (by decide +kernel)]; exact ⟨rfl, rfl⟩))
    (fun os started H enc _ => lifted os started H enc)
theorem proved : Rows.NatCommonCardSaid :=
  Claim7.holds_tied_plain_at .later [] [.data, .pinned] true (true, "77147d39bdb4dc4e6390641f605e895d81b9491c8fbdada3086ea5a4c105b776") false
    holds (fun _ h => by cases h) (by kernel_rfl) (fun _ h => by cases h) natCommon_row_tie rfl ⟨rfl, rfl⟩ (by kernel_rfl) rfl
    (fun f fn hf hfn => by
      obtain rfl : f = 7 := Option.some.inj ((show Tryd.prog.funcNamed "samphire/samphirelaw02.NatCommon" = some 7 by kernel_rfl).symm.trans hf) |>.symm
      obtain rfl : fn = Tryd.f7 := (Option.some.inj (Tryd.func7.symm.trans hfn)).symm
      exact ⟨by kernel_rfl, fun j t ht => by
        rw [Tryd.params7] at ht
        have h3 : t = 23 := by
          rcases j with _ | _ | j
          · simpa using ht.symm
          · simpa using ht.symm
          · simp at ht
        subst h3
        exact (show Tryd.prog.wantsStandIn 23 = false by kernel_rfl)⟩)
    (by kernel_rfl)
#print axioms proved
end Go.Proofs.YthdpgipckgifcaaDoor.natCommon
