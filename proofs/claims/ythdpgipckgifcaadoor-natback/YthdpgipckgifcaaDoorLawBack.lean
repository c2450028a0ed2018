/- For every two lists of limbs the law NatBack answers true: what is divided, added, and written comes back. No condition beyond the row; the tables of unicode/utf8 start as the program lays them (tied). -/
import Derived.Test.YthdpgipckgifcaaDoorBase
import Derived.Test.YthdpgipckgifcaaDoorNumL
namespace Go.Proofs.YthdpgipckgifcaaDoor.natBack
open Go.ChangeShapes Go.WideShapes Go.ChangeAt Go.RowKit
open Go.Proofs.YthdpgipckgifcaaDoor
set_option linter.unusedVariables false
set_option linter.unusedSimpArgs false

theorem tens_len (n : Nat) : ∀ k, n < 10 ^ k → (tens n).length ≤ k := by
  induction n using Nat.strongRecOn with
  | _ n ih =>
    intro k hk
    by_cases h : n = 0
    · rw [h, tens_zero]; exact Nat.zero_le _
    · rw [tens_pos h, List.length_cons]
      cases k with
      | zero => simp at hk; exact absurd hk h
      | succ k =>
        have := ih (n / 10) (Nat.div_lt_self (Nat.pos_of_ne_zero h) (by decide)) k ((Nat.div_lt_iff_lt_mul (by decide)).2 (by rw [Nat.pow_succ] at hk; exact hk))
        omega
theorem dtext_len {a : Nat} (h : ln a ≤ 64) : (dtext a).length ≤ 9223372036854775807 := by
  by_cases z : a = 0
  · rw [z, dtext_zero]; simp
  · rw [dtext_pos z, List.length_reverse, List.length_map]
    have := tens_len a _ (lt_630 h)
    omega
theorem read_text {a : Nat} (h : ln a ≤ 64) (w : World) : Calls Tryd.prog 32 #[.string ⟨(dtext a).toArray⟩] w fun e w' => RetE a 0 w e w' := by
  have hl : (⟨(dtext a).toArray⟩ : ByteArray).size ≤ 9223372036854775807 := by
    have e := L_len ⟨(dtext a).toArray⟩
    rw [L_of] at e
    rw [← e]
    exact dtext_len h
  have := read_yes ⟨(dtext a).toArray⟩ hl (by rw [L_of]; exact isT_dtext _) w
  rwa [L_of, rd_dtext, fitN_yes h, fitE_yes h] at this
set_option maxHeartbeats 4000000 in
set_option maxRecDepth 100000 in
theorem long1 {A A' : Option Addr} {n c n' c' : Nat} {xs ys : List Nat} {w : World} (ha : Lim w A n c xs) (hb : Lim w A' n' c' ys) (h : ¬ n ≤ 30) : Calls Tryd.prog 6 #[.slice A n c, .slice A' n' c'] w fun e w' => e = .returned (.bool true) ∧ Below w.heap.size w w' := by
  have i1 : ¬ (n : Int) ≤ 30 := by omega
  clear ha hb h
  go_enter Tryd.func6, Tryd.ntmps6
  go_wp2_with fail
  refine (awake_any _).mono ?_
  rintro e w9 ⟨rfl, B9⟩
  go_wp2_with fail
  go_ret
  exact ⟨rfl, B9⟩
set_option maxHeartbeats 4000000 in
set_option maxRecDepth 100000 in
theorem long2 {A A' : Option Addr} {n c n' c' : Nat} {xs ys : List Nat} {w : World} (ha : Lim w A n c xs) (hb : Lim w A' n' c' ys) (h : n ≤ 30) (h' : ¬ n' ≤ 30) : Calls Tryd.prog 6 #[.slice A n c, .slice A' n' c'] w fun e w' => e = .returned (.bool true) ∧ Below w.heap.size w w' := by
  have i1 : (n : Int) ≤ 30 := by omega
  have i2 : ¬ (n' : Int) ≤ 30 := by omega
  clear ha hb h h'
  go_enter Tryd.func6, Tryd.ntmps6
  go_wp2_with fail
  refine (awake_any _).mono ?_
  rintro e w9 ⟨rfl, B9⟩
  go_wp2_with fail
  go_ret
  exact ⟨rfl, B9⟩
set_option maxHeartbeats 4000000 in
set_option maxRecDepth 100000 in
theorem wrong1 {A A' : Option Addr} {n c n' c' : Nat} {xs ys : List Nat} {w : World} (ha : Lim w A n c xs) (hb : Lim w A' n' c' ys) (h : n ≤ 30) (h' : n' ≤ 30) (k : ¬ Nt xs) : Calls Tryd.prog 6 #[.slice A n c, .slice A' n' c'] w fun e w' => e = .returned (.bool true) ∧ Below w.heap.size w w' := by
  have i1 : (n : Int) ≤ 30 := by omega
  have i2 : (n' : Int) ≤ 30 := by omega
  have RA := Lib.hid (right_no ha k)
  clear ha hb h h' k
  go_enter Tryd.func6, Tryd.ntmps6
  go_wp2_with fail
  refine RA.out.mono ?_
  rintro e w' ⟨rfl, rfl⟩
  go_wp2_with fail
  refine (awake_any _).mono ?_
  rintro e w9 ⟨rfl, B9⟩
  go_wp2_with fail
  go_ret
  exact ⟨rfl, B9⟩
set_option maxHeartbeats 4000000 in
set_option maxRecDepth 100000 in
theorem wrong2 {A A' : Option Addr} {n c n' c' : Nat} {xs ys : List Nat} {w : World} (ha : Lim w A n c xs) (hb : Lim w A' n' c' ys) (h : n ≤ 30) (h' : n' ≤ 30) (k : Nt xs) (k' : ¬ Nt ys) : Calls Tryd.prog 6 #[.slice A n c, .slice A' n' c'] w fun e w' => e = .returned (.bool true) ∧ Below w.heap.size w w' := by
  have i1 : (n : Int) ≤ 30 := by omega
  have i2 : (n' : Int) ≤ 30 := by omega
  have RA := Lib.hid (right_yes (k.eq ha.lo ▸ ha) (by unfold ln; rw [← k.eq ha.lo]; exact k.1))
  have RB := Lib.hid (right_no hb k')
  clear ha hb h h' k k'
  go_enter Tryd.func6, Tryd.ntmps6
  go_wp2_with fail
  refine RA.out.mono ?_
  rintro e w' ⟨rfl, rfl⟩
  go_wp2_with fail
  refine RB.out.mono ?_
  rintro e w' ⟨rfl, rfl⟩
  go_wp2_with fail
  refine (awake_any _).mono ?_
  rintro e w9 ⟨rfl, B9⟩
  go_wp2_with fail
  go_ret
  exact ⟨rfl, B9⟩
set_option maxHeartbeats 8000000 in
set_option maxRecDepth 100000 in
theorem zero {A A' : Option Addr} {n c n' c' a b : Nat} {w : World} (ha : Lim w A n c (limbs a)) (hb : Lim w A' n' c' (limbs b)) (la : ln a ≤ 30) (lb : ln b ≤ 30) (h : b = 0) :
    Calls Tryd.prog 6 #[.slice A n c, .slice A' n' c'] w fun e w' => e = .returned (.bool true) ∧ Below w.heap.size w w' := by
  have hl := ha.len; have hl' := hb.len
  rw [limbs_length] at hl hl'
  have i1 : (n : Int) ≤ 30 := by omega
  have i2 : (n' : Int) ≤ 30 := by omega
  have RA := Lib.hid (right_yes ha (by omega)); have RB := Lib.hid (right_yes hb (by omega))
  have S := ((Sts.start w).put ha).put hb
  have l1 := ln_add la lb
  have ES := Lib.hid (Nat.add_sub_cancel (n := a) (m := b))
  have hz : n' = 0 := by rw [← hl', h, ln_zero]
  subst h hz
  clear ha hb hl hl'
  go_enter Tryd.func6, Tryd.ntmps6
  go_wp2_with fail
  refine RA.out.mono ?_
  rintro e w' ⟨rfl, rfl⟩
  go_wp2_with fail
  refine RB.out.mono ?_
  rintro e w' ⟨rfl, rfl⟩
  go_wp2_with fail
  have K1 := add_any S.lie.2.1 S.lie.1 (by omega) (by omega)
  rw [fitN_yes (by omega), fitE_yes (by omega)] at K1
  refine K1.mono ?_
  clear K1
  rintro e w1 ⟨A1, n1, c1, rfl, L1, B1⟩
  have S := (S.next B1).put L1
  clear L1 B1
  go_wp2_with fail
  have K2 := sub_any S.lie.1 S.lie.2.1 (by omega) (by omega) (by omega)
  rw [ES.out] at K2
  refine K2.mono ?_
  clear K2
  rintro e w2 ⟨A2, n2, c2, rfl, L2, B2⟩
  have S := (S.next B2).put L2
  clear L2 B2
  go_wp2_with fail
  have K3 := text_any S.lie.2.2.2.1 (by omega)
  refine K3.mono ?_
  clear K3
  rintro e w3 ⟨rfl, B3⟩
  have S := S.next B3
  clear B3
  go_wp2_with fail
  have K4 := read_text (a := a) (by omega)
  refine (K4 _).mono ?_
  clear K4
  rintro e w4 ⟨A4, n4, c4, rfl, L4, B4⟩
  have S := (S.next B4).put L4
  clear L4 B4
  go_wp2_with fail
  have K5 := cmp_bel S.lie.2.1 S.lie.2.2.2.2.1 (by omega) (by omega)
  rw [sgn_eq] at K5
  refine K5.mono ?_
  clear K5
  rintro e w5 ⟨rfl, B5⟩
  have S := S.next B5
  clear B5
  go_wp2_with fail
  have K6 := cmp_bel S.lie.1 S.lie.2.2.2.2.1 (by omega) (by omega)
  rw [sgn_eq] at K6
  refine K6.mono ?_
  clear K6
  rintro e w6 ⟨rfl, B6⟩
  have S := S.next B6
  clear B6
  go_wp2_with fail
  have K7 := same_bel S.lie.2.1 S.lie.2.2.2.2.1
  rw [sameB_yes] at K7
  refine K7.mono ?_
  clear K7
  rintro e w7 ⟨rfl, B7⟩
  have S := S.next B7
  clear B7
  go_wp2_with fail
  have K8 := same_bel S.lie.1 S.lie.2.2.2.2.1
  rw [sameB_yes] at K8
  refine K8.mono ?_
  clear K8
  rintro e w8 ⟨rfl, B8⟩
  have S := S.next B8
  clear B8
  go_wp2_with fail
  have LB := S.lie.2.2.2.1
  rw [limbs_zero] at LB
  refine (div_zero S.lie.2.2.2.2.1 LB (by omega)).mono ?_
  rintro e w' ⟨rfl, rfl⟩
  go_wp2_with fail
  refine (awake_any _).mono ?_
  rintro e w9 ⟨rfl, B9⟩
  go_wp2_with fail
  go_ret
  exact ⟨rfl, below_step S.bl B9⟩
set_option maxHeartbeats 8000000 in
set_option maxRecDepth 100000 in
theorem some_ {A A' : Option Addr} {n c n' c' a b : Nat} {w : World} (ha : Lim w A n c (limbs a)) (hb : Lim w A' n' c' (limbs b)) (la : ln a ≤ 30) (lb : ln b ≤ 30) (h : b ≠ 0) :
    Calls Tryd.prog 6 #[.slice A n c, .slice A' n' c'] w fun e w' => e = .returned (.bool true) ∧ Below w.heap.size w w' := by
  have hl := ha.len; have hl' := hb.len
  rw [limbs_length] at hl hl'
  have i1 : (n : Int) ≤ 30 := by omega
  have i2 : (n' : Int) ≤ 30 := by omega
  have RA := Lib.hid (right_yes ha (by omega)); have RB := Lib.hid (right_yes hb (by omega))
  have S := ((Sts.start w).put ha).put hb
  have l1 := ln_add la lb
  have ES := Lib.hid (Nat.add_sub_cancel (n := a) (m := b))
  have EQ := Lib.hid (Nat.div_add_mod' a b)
  have l2 := ln_mono (Nat.div_le_self a b)
  have l3 := ln_mono (Nat.mod_le a b)
  have l4 := ln_mono (Nat.div_mul_le_self a b)
  have hr := Nat.mod_lt a (Nat.pos_of_ne_zero h)
  have hle : b ≤ a + b := by omega
  clear ha hb hl hl'
  go_enter Tryd.func6, Tryd.ntmps6
  go_wp2_with fail
  refine RA.out.mono ?_
  rintro e w' ⟨rfl, rfl⟩
  go_wp2_with fail
  refine RB.out.mono ?_
  rintro e w' ⟨rfl, rfl⟩
  go_wp2_with fail
  have K1 := add_any S.lie.2.1 S.lie.1 (by omega) (by omega)
  rw [fitN_yes (by omega), fitE_yes (by omega)] at K1
  refine K1.mono ?_
  clear K1
  rintro e w1 ⟨A1, n1, c1, rfl, L1, B1⟩
  have S := (S.next B1).put L1
  clear L1 B1
  go_wp2_with fail
  have K2 := sub_any S.lie.1 S.lie.2.1 (by omega) (by omega) (by omega)
  rw [ES.out] at K2
  refine K2.mono ?_
  clear K2
  rintro e w2 ⟨A2, n2, c2, rfl, L2, B2⟩
  have S := (S.next B2).put L2
  clear L2 B2
  go_wp2_with fail
  have K3 := text_any S.lie.2.2.2.1 (by omega)
  refine K3.mono ?_
  clear K3
  rintro e w3 ⟨rfl, B3⟩
  have S := S.next B3
  clear B3
  go_wp2_with fail
  have K4 := read_text (a := a) (by omega)
  refine (K4 _).mono ?_
  clear K4
  rintro e w4 ⟨A4, n4, c4, rfl, L4, B4⟩
  have S := (S.next B4).put L4
  clear L4 B4
  go_wp2_with fail
  have K5 := cmp_bel S.lie.2.1 S.lie.2.2.2.2.1 (by omega) (by omega)
  rw [sgn_eq] at K5
  refine K5.mono ?_
  clear K5
  rintro e w5 ⟨rfl, B5⟩
  have S := S.next B5
  clear B5
  go_wp2_with fail
  have K6 := cmp_bel S.lie.1 S.lie.2.2.2.2.1 (by omega) (by omega)
  rw [sgn_eq] at K6
  refine K6.mono ?_
  clear K6
  rintro e w6 ⟨rfl, B6⟩
  have S := S.next B6
  clear B6
  go_wp2_with fail
  have K7 := same_bel S.lie.2.1 S.lie.2.2.2.2.1
  rw [sameB_yes] at K7
  refine K7.mono ?_
  clear K7
  rintro e w7 ⟨rfl, B7⟩
  have S := S.next B7
  clear B7
  go_wp2_with fail
  have K8 := same_bel S.lie.1 S.lie.2.2.2.2.1
  rw [sameB_yes] at K8
  refine K8.mono ?_
  clear K8
  rintro e w8 ⟨rfl, B8⟩
  have S := S.next B8
  clear B8
  go_wp2_with fail
  refine (div_any S.lie.2.2.2.2.1 S.lie.2.2.2.1 (by omega) (by omega) h).mono ?_
  rintro e w10 ⟨A10, n10, c10, A11, n11, c11, rfl, L10, L11, B10⟩
  have S := ((S.next B10).put L10).put L11
  clear L10 L11 B10
  generalize a / b = q at *
  generalize a % b = r at *
  go_wp2_with fail
  have K12 := mul_any S.lie.2.1 S.lie.2.2.2.2.2.1 (by omega) (by omega)
  rw [fitN_yes (by omega), fitE_yes (by omega)] at K12
  refine K12.mono ?_
  clear K12
  rintro e w12 ⟨A12, n12, c12, rfl, L12, B12⟩
  have S := (S.next B12).put L12
  clear L12 B12
  go_wp2_with fail
  have K13 := add_any S.lie.1 S.lie.2.1 (by omega) (by omega)
  rw [EQ.out, fitN_yes (by omega), fitE_yes (by omega)] at K13
  refine K13.mono ?_
  clear K13
  rintro e w13 ⟨A13, n13, c13, rfl, L13, B13⟩
  have S := (S.next B13).put L13
  clear L13 B13
  go_wp2_with fail
  have K14 := same_bel S.lie.1 S.lie.2.2.2.2.2.2.2.2.1
  rw [sameB_yes] at K14
  refine K14.mono ?_
  clear K14
  rintro e w14 ⟨rfl, B14⟩
  have S := S.next B14
  clear B14
  go_wp2_with fail
  have K15 := cmp_bel S.lie.2.2.1 S.lie.2.2.2.2.2.2.2.1 (by omega) (by omega)
  rw [sgn_lt hr] at K15
  refine K15.mono ?_
  clear K15
  rintro e w15 ⟨rfl, B15⟩
  have S := S.next B15
  clear B15
  go_wp2_with fail
  refine (awake_any _).mono ?_
  rintro e w9 ⟨rfl, B9⟩
  go_wp2_with fail
  go_ret
  exact ⟨rfl, below_step S.bl B9⟩
theorem main {A A' : Option Addr} {n c n' c' a b : Nat} {w : World} (ha : Lim w A n c (limbs a)) (hb : Lim w A' n' c' (limbs b)) (la : ln a ≤ 30) (lb : ln b ≤ 30) :
    Calls Tryd.prog 6 #[.slice A n c, .slice A' n' c'] w fun e w' => e = .returned (.bool true) ∧ Below w.heap.size w w' := by
  by_cases h : b = 0
  · exact zero ha hb la lb h
  · exact some_ ha hb la lb h
theorem walk {A A' : Option Addr} {n c n' c' : Nat} {xs ys : List Nat} {w : World} (ha : Lim w A n c xs) (hb : Lim w A' n' c' ys) : Calls Tryd.prog 6 #[.slice A n c, .slice A' n' c'] w fun e w' => e = .returned (.bool true) ∧ Below w.heap.size w w' := by
  by_cases h1 : n ≤ 30
  · by_cases h2 : n' ≤ 30
    · by_cases k1 : Nt xs
      · by_cases k2 : Nt ys
        · have e1 := k1.eq ha.lo
          have e2 := k2.eq hb.lo
          have l1 : ln (val xs) = n := by rw [← limbs_length, ← e1]; exact ha.len
          have l2 : ln (val ys) = n' := by rw [← limbs_length, ← e2]; exact hb.len
          exact main (e1 ▸ ha) (e2 ▸ hb) (by omega) (by omega)
        · exact wrong2 ha hb h1 h2 k1 k2
      · exact wrong1 ha hb h1 h2 k1
    · exact long2 ha hb h1 h2
  · exact long1 ha hb h1

set_option maxRecDepth 100000 in
theorem lifted (os : Os) (started : os.Started) (H : Type) (enc : TypeId × Value → H) :
    ReturnsInHanded {} Tryd.checked os 6 .any (fun w args => (Rows.natBackSpec.pre enc Tryd.prog Tryd.f6 Rows.natBackRow.domain false w args ∧ laidMetH Tryd.prog Rows.natBackRow.laid w) ∧ sizedMet enc Tryd.prog Tryd.f6 (OpenSpec.ofChange Rows.natBackSpec) false w args)
      (Rows.natBackSpec.post enc Tryd.prog Tryd.f6 false true false false) := by
  refine returnsInHanded_of_change_and (C := Tryd.checked) (X := fun w _ => laidMetH Tryd.prog Rows.natBackRow.laid w) (fun _ _ _ hh h => h.of_heap hh) own started (by kernel_rfl) Tryd.func6
    (ChangeSpec.witness_shaped (enc := enc) (C := Tryd.checked) (os := os) (X := fun w _ => laidMetH Tryd.prog Rows.natBackRow.laid w) false (World.laidAll Tryd.prog os Rows.natBackRow.laid) #[.slice none 0 0, .slice none 0 0] 8 (World.laidAll_os _ _ _)
      (World.shaped_of_ZipB (by kernel_rfl) (by kernel_rfl)) (by kernel_rfl) (by kernel_rfl) (by kernel_rfl)
      (by rw [MakeChecks.laidMetH_plain _ _ _ (by kernel_rfl)]; exact laidMet_laidAll _ (by kernel_rfl) (by kernel_rfl))) ?_
  intro W base args ds gs before hval0 hW _ _ _ _
  have hval : ∀ (j : Nat) t v, Tryd.f6.params[j]? = some t → args[j]? = some v → Value.okWide Tryd.prog W .any base t v := hval0
  have hW' := hW
  obtain ⟨p, q, hA0, hV, rfl, _, _⟩ := hW
  have hA : DataW.TrodAll enc Tryd.prog W 0 (fun _ => true) true Tryd.f6.params.toList args.toList ds p := hA0
  rw [Tryd.params6] at hA hval
  obtain ⟨v0, v1, d0, d1, p0, p1, rfl, rfl, rfl, h0, h1⟩ := trodAll_two hA
  obtain ⟨rfl, rfl⟩ := trodVars_none hV
  obtain ⟨A, n, c, xs, rfl, ha⟩ := open_nat (hval 0 23 v0 rfl rfl) h0
  obtain ⟨A', n', c', ys, rfl, hb⟩ := open_nat (hval 1 23 v1 rfl rfl) h1
  clear hA0 hval0
  simp only [List.append_nil] at hW'
  have hlt : ∀ x ∈ p0 ++ p1, x.block < W.heap.size := fun x hx => by simpa using hW'.lt x hx
  refine (walk ha hb).mono fun e W' ⟨he, hbl⟩ => ?_
  subst he
  refine ⟨_, rfl, post_args hW' (fun _ _ _ => trodAll_mk1 (shut_bool Tryd.underlying4 _)) ?_ (fun _ => rfl) hbl⟩
  have t0 := Below.trod laidOut readable typed h0 hbl (fun x hx => hlt x (List.mem_append_left _ hx))
  have t1 := Below.trod laidOut readable typed h1 hbl (fun x hx => hlt x (List.mem_append_right _ hx))
  exact trodAll_mk2 t0 t1

theorem holds : Rows.NatBackSaid :=
  OpenClaim.holds_of_wide 6 Tryd.f6 rfl rfl rfl rfl rfl rfl rfl ⟨rfl, rfl, rfl, rfl, rfl⟩ rfl rfl rfl rfl rfl (by kernel_rfl) Tryd.func6 (by kernel_rfl)
    (of_decide_eq_true (by kernel_rfl)) (by unfold Func.isWrapper; first | (rw [if_pos (by decide +kernel)]; kernel_rfl) | (rw [if_neg (by decide +kernel)]; exact ⟨rfl, rfl⟩))
    (fun os started H enc _ => lifted os started H enc)
theorem proved : Rows.NatBackCardSaid :=
  Claim7.holds_tied_plain_at .later [] [.data, .pinned] true (true, "77147d39bdb4dc4e6390641f605e895d81b9491c8fbdada3086ea5a4c105b776") false
    holds (fun _ h => by cases h) (by kernel_rfl) (fun _ h => by cases h) natBack_row_tie rfl ⟨rfl, rfl⟩ (by kernel_rfl) rfl
    (fun f fn hf hfn => by
      obtain rfl : f = 6 := Option.some.inj ((show Tryd.prog.funcNamed "samphire/samphirelaw02.NatBack" = some 6 by kernel_rfl).symm.trans hf) |>.symm
      obtain rfl : fn = Tryd.f6 := (Option.some.inj (Tryd.func6.symm.trans hfn)).symm
      exact ⟨by kernel_rfl, fun j t ht => by
        rw [Tryd.params6] at ht
        have h3 : t = 23 := by
          rcases j with _ | _ | j
          · simpa using ht.symm
          · simpa using ht.symm
          · simp at ht
        subst h3
        exact (show Tryd.prog.wantsStandIn 23 = false by kernel_rfl)⟩)
    (by kernel_rfl)
#print axioms proved
end Go.Proofs.YthdpgipckgifcaaDoor.natBack
