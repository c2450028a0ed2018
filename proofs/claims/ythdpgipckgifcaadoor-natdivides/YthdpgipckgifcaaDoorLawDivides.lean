/- For every two lists of limbs the law NatDivides answers true: the quotient, what is left and the greatest common divisor are the document's, or refused. No condition beyond the row; the tables of unicode/utf8 start as the program lays them (tied). -/
import Derived.Test.YthdpgipckgifcaaDoorBase
import Derived.Test.YthdpgipckgifcaaDoorNumL
import Derived.Test.YthdpgipckgifcaaDoorTold
import Derived.Test.YthdpgipckgifcaaDoorRefGcd
namespace Go.Proofs.YthdpgipckgifcaaDoor.natDivides
open Go.ChangeShapes Go.WideShapes Go.ChangeAt Go.RowKit
open Go.Proofs.YthdpgipckgifcaaDoor
set_option linter.unusedVariables false
set_option linter.unusedSimpArgs false

set_option maxHeartbeats 8000000 in
set_option maxRecDepth 100000 in
theorem long1 {A A' : Option Addr} {n c n' c' : Nat} {xs ys : List Nat} {w : World} (ha : Lim w A n c xs) (hb : Lim w A' n' c' ys) (h : ¬ n ≤ 70) : Calls Tryd.prog 4 #[.slice A n c, .slice A' n' c'] w fun e w' => e = .returned (.bool true) ∧ Below w.heap.size w w' := by
  have K1 := Lib.hid (refSmall_no A n c w h)
  clear ha hb
  go_enter Tryd.func4, Tryd.ntmps4
  go_wp2_with fail
  refine K1.out.mono ?_
  rintro e w' ⟨rfl, rfl⟩
  go_wp2_with fail
  refine (awake_any _).mono ?_
  rintro e w9 ⟨rfl, B9⟩
  go_wp2_with fail
  go_ret
  exact ⟨rfl, B9⟩
set_option maxHeartbeats 8000000 in
set_option maxRecDepth 100000 in
theorem long2 {A A' : Option Addr} {n c n' c' : Nat} {xs ys : List Nat} {w : World} (ha : Lim w A n c xs) (hb : Lim w A' n' c' ys) (h : n ≤ 70) (h' : ¬ n' ≤ 70) : Calls Tryd.prog 4 #[.slice A n c, .slice A' n' c'] w fun e w' => e = .returned (.bool true) ∧ Below w.heap.size w w' := by
  have K1 := Lib.hid (refSmall_yes A n c w h)
  have K2 := Lib.hid (refSmall_no A' n' c' w h')
  clear ha hb
  go_enter Tryd.func4, Tryd.ntmps4
  go_wp2_with fail
  refine K1.out.mono ?_
  rintro e w' ⟨rfl, rfl⟩
  go_wp2_with fail
  refine K2.out.mono ?_
  rintro e w' ⟨rfl, rfl⟩
  go_wp2_with fail
  refine (awake_any _).mono ?_
  rintro e w9 ⟨rfl, B9⟩
  go_wp2_with fail
  go_ret
  exact ⟨rfl, B9⟩
set_option maxHeartbeats 8000000 in
set_option maxRecDepth 100000 in
theorem wrong1 {A A' : Option Addr} {n c n' c' : Nat} {xs ys : List Nat} {w : World} (ha : Lim w A n c xs) (hb : Lim w A' n' c' ys) (h : n ≤ 70) (h' : n' ≤ 70) (k : ¬ Nt xs) : Calls Tryd.prog 4 #[.slice A n c, .slice A' n' c'] w fun e w' => e = .returned (.bool true) ∧ Below w.heap.size w w' := by
  have K1 := Lib.hid (refSmall_yes A n c w h)
  have K2 := Lib.hid (refSmall_yes A' n' c' w h')
  have NN : ¬ (Nt xs ∧ Nt ys) := fun x => k x.1
  have R1 := Lib.hid (refRight_no ha k)
  have KD := Lib.hid (div_none ha hb NN); have KG := Lib.hid (gcd_none ha hb NN)
  have KT : Hid (∀ W, Calls Tryd.prog 18 #[.slice none 0 0, .int .i64 1, .bool false, .slice none 0 0] W fun e w' => e = .returned (.bool true) ∧ W = w') := fun W => told_no none none 0 0 0 W
  clear ha hb h h'
  go_enter Tryd.func4, Tryd.ntmps4
  go_wp2_with fail
  refine K1.out.mono ?_
  rintro e w' ⟨rfl, rfl⟩
  go_wp2_with fail
  refine K2.out.mono ?_
  rintro e w' ⟨rfl, rfl⟩
  go_wp2_with fail
  refine KD.out.mono ?_
  rintro e w' ⟨rfl, rfl⟩
  go_wp2_with fail
  refine KG.out.mono ?_
  rintro e w' ⟨rfl, rfl⟩
  go_wp2_with fail
  refine R1.out.mono ?_
  rintro e w' ⟨rfl, rfl⟩
  go_wp2_with fail
  refine (KT.out _).mono ?_
  rintro e w' ⟨rfl, rfl⟩
  go_wp2_with fail
  refine (awake_any _).mono ?_
  rintro e w9 ⟨rfl, B9⟩
  go_wp2_with fail
  go_ret
  exact ⟨rfl, B9⟩
set_option maxHeartbeats 8000000 in
set_option maxRecDepth 100000 in
theorem wrong2 {A A' : Option Addr} {n c n' c' : Nat} {xs ys : List Nat} {w : World} (ha : Lim w A n c xs) (hb : Lim w A' n' c' ys) (h : n ≤ 70) (h' : n' ≤ 70) (k : Nt xs) (k' : ¬ Nt ys) : Calls Tryd.prog 4 #[.slice A n c, .slice A' n' c'] w fun e w' => e = .returned (.bool true) ∧ Below w.heap.size w w' := by
  have K1 := Lib.hid (refSmall_yes A n c w h)
  have K2 := Lib.hid (refSmall_yes A' n' c' w h')
  have NN : ¬ (Nt xs ∧ Nt ys) := fun x => k' x.2
  have R1 := Lib.hid (refRight_yes (nt_lim ha k).1 (nt_lim ha k).2)
  have R2 := Lib.hid (refRight_no hb k')
  have KD := Lib.hid (div_none ha hb NN); have KG := Lib.hid (gcd_none ha hb NN)
  have KT : Hid (∀ W, Calls Tryd.prog 18 #[.slice none 0 0, .int .i64 1, .bool false, .slice none 0 0] W fun e w' => e = .returned (.bool true) ∧ W = w') := fun W => told_no none none 0 0 0 W
  clear ha hb h h'
  go_enter Tryd.func4, Tryd.ntmps4
  go_wp2_with fail
  refine K1.out.mono ?_
  rintro e w' ⟨rfl, rfl⟩
  go_wp2_with fail
  refine K2.out.mono ?_
  rintro e w' ⟨rfl, rfl⟩
  go_wp2_with fail
  refine KD.out.mono ?_
  rintro e w' ⟨rfl, rfl⟩
  go_wp2_with fail
  refine KG.out.mono ?_
  rintro e w' ⟨rfl, rfl⟩
  go_wp2_with fail
  refine R1.out.mono ?_
  rintro e w' ⟨rfl, rfl⟩
  go_wp2_with fail
  refine R2.out.mono ?_
  rintro e w' ⟨rfl, rfl⟩
  go_wp2_with fail
  refine (KT.out _).mono ?_
  rintro e w' ⟨rfl, rfl⟩
  go_wp2_with fail
  refine (awake_any _).mono ?_
  rintro e w9 ⟨rfl, B9⟩
  go_wp2_with fail
  go_ret
  exact ⟨rfl, B9⟩
set_option maxHeartbeats 8000000 in
set_option maxRecDepth 100000 in
theorem plain {A A' : Option Addr} {n c n' c' a b : Nat} {w : World} (ha : Lim w A n c (limbs a)) (hb : Lim w A' n' c' (limbs b)) (la : ln a ≤ 64) (lb : ln b ≤ 64) (b0 : b ≠ 0) : Calls Tryd.prog 4 #[.slice A n c, .slice A' n' c'] w fun e w' => e = .returned (.bool true) ∧ Below w.heap.size w w' := by
  have hl := ha.len; have hl' := hb.len
  rw [limbs_length] at hl hl'
  have hn : n ≤ 64 := by omega
  have hn' : n' ≤ 64 := by omega
  have K1 := Lib.hid (refSmall_yes A n c w (by omega))
  have K2 := Lib.hid (refSmall_yes A' n' c' w (by omega))
  have hn0 : ((n' : Int) == 0) = false := by
    have : n' ≠ 0 := fun e => b0 (ln_eq_zero (by omega))
    simpa using this
  have LG : ln (Nat.gcd a b) ≤ 64 := Nat.le_trans (ln_mono (Nat.le_of_dvd (Nat.pos_of_ne_zero b0) (Nat.gcd_dvd_right a b))) lb
  have S := ((Sts.start w).put ha).put hb
  clear ha hb hl hl'
  go_enter Tryd.func4, Tryd.ntmps4
  go_wp2_with fail
  refine K1.out.mono ?_
  rintro e w' ⟨rfl, rfl⟩
  go_wp2_with fail
  refine K2.out.mono ?_
  rintro e w' ⟨rfl, rfl⟩
  go_wp2_with fail
  have K4 := div_any S.lie.2.1 S.lie.1 la lb b0
  refine K4.mono ?_
  clear K4
  rintro e w4 ⟨A4, n4, c4, D4, m4, d4, rfl, L4, M4, B4⟩
  have S := ((S.next B4).put L4).put M4
  clear L4 M4 B4
  go_wp2_with fail
  have K5 := gcd_any S.lie.2.2.2.1 S.lie.2.2.1 la lb
  refine K5.mono ?_
  clear K5
  rintro e w5 ⟨A5, n5, c5, rfl, L5, B5⟩
  have S := (S.next B5).put L5
  clear L5 B5
  go_wp2_with fail
  have K20 := refRight_yes S.lie.2.2.2.2.1 la
  refine K20.mono ?_
  clear K20
  rintro e w' ⟨rfl, rfl⟩
  go_wp2_with fail
  have K21 := refRight_yes S.lie.2.2.2.1 lb
  refine K21.mono ?_
  clear K21
  rintro e w' ⟨rfl, rfl⟩
  go_wp2_with fail
  have K6 := refGcd_any S.lie.2.2.2.2.1 S.lie.2.2.2.1 la lb
  refine K6.mono ?_
  clear K6
  rintro e w6 ⟨A6, n6, c6, rfl, L6, B6⟩
  have S := (S.next B6).put L6
  clear L6 B6
  go_wp2_with fail
  have K7 := told_any (r := Nat.gcd a b) (by rw [fitN_yes LG]; exact S.lie.2.1) S.lie.1
  rw [fitE_yes LG] at K7
  refine K7.mono ?_
  clear K7
  rintro e w7 ⟨rfl, B7⟩
  have S := S.next B7
  clear B7
  go_wp2_with fail
  have K8 := refDiv_any S.lie.2.2.2.2.2.1 S.lie.2.2.2.2.1 la lb b0
  refine K8.mono ?_
  clear K8
  rintro e w8 ⟨A8, n8, c8, D8, m8, d8, rfl, L8, M8, B8⟩
  have S := ((S.next B8).put L8).put M8
  clear L8 M8 B8
  go_wp2_with fail
  have K9 := same_bel S.lie.2.2.2.2.2.1 S.lie.2.1
  rw [sameB_yes] at K9
  refine K9.mono ?_
  clear K9
  rintro e w9 ⟨rfl, B9⟩
  have S := S.next B9
  clear B9
  go_wp2_with fail
  have K10 := same_bel S.lie.2.2.2.2.1 S.lie.1
  rw [sameB_yes] at K10
  refine K10.mono ?_
  clear K10
  rintro e w10 ⟨rfl, B10⟩
  have S := S.next B10
  clear B10
  go_wp2_with fail
  refine (awake_any _).mono ?_
  rintro e w19 ⟨rfl, B19⟩
  go_wp2_with fail
  go_ret
  exact ⟨rfl, below_step S.bl B19⟩
set_option maxHeartbeats 8000000 in
set_option maxRecDepth 100000 in
theorem zero {A A' : Option Addr} {n c n' c' a b : Nat} {w : World} (ha : Lim w A n c (limbs a)) (hb : Lim w A' n' c' (limbs b)) (la : ln a ≤ 64) (lb : ln b ≤ 64) (b0 : b = 0) : Calls Tryd.prog 4 #[.slice A n c, .slice A' n' c'] w fun e w' => e = .returned (.bool true) ∧ Below w.heap.size w w' := by
  have hl := ha.len; have hl' := hb.len
  rw [limbs_length] at hl hl'
  have hn : n ≤ 64 := by omega
  have hn' : n' ≤ 64 := by omega
  have K1 := Lib.hid (refSmall_yes A n c w (by omega))
  have K2 := Lib.hid (refSmall_yes A' n' c' w (by omega))
  have hz : n' = 0 := by rw [← hl', b0, ln_zero]
  subst b0 hz
  have LG : ln (Nat.gcd a 0) ≤ 64 := by rw [Nat.gcd_zero_right]; exact la
  have KZ := Lib.hid (div_zero (c' := c') ha (by rw [← limbs_zero]; exact hb) la)
  have S := ((Sts.start w).put ha).put hb
  clear ha hb hl hl'
  go_enter Tryd.func4, Tryd.ntmps4
  go_wp2_with fail
  refine K1.out.mono ?_
  rintro e w' ⟨rfl, rfl⟩
  go_wp2_with fail
  refine K2.out.mono ?_
  rintro e w' ⟨rfl, rfl⟩
  go_wp2_with fail
  refine KZ.out.mono ?_
  rintro e w' ⟨rfl, rfl⟩
  go_wp2_with fail
  have K5 := gcd_any S.lie.2.1 S.lie.1 la lb
  refine K5.mono ?_
  clear K5
  rintro e w5 ⟨A5, n5, c5, rfl, L5, B5⟩
  have S := (S.next B5).put L5
  clear L5 B5
  go_wp2_with fail
  have K20 := refRight_yes S.lie.2.2.1 la
  refine K20.mono ?_
  clear K20
  rintro e w' ⟨rfl, rfl⟩
  go_wp2_with fail
  have K21 := refRight_yes S.lie.2.1 lb
  refine K21.mono ?_
  clear K21
  rintro e w' ⟨rfl, rfl⟩
  go_wp2_with fail
  have K6 := refGcd_any S.lie.2.2.1 S.lie.2.1 la lb
  refine K6.mono ?_
  clear K6
  rintro e w6 ⟨A6, n6, c6, rfl, L6, B6⟩
  have S := (S.next B6).put L6
  clear L6 B6
  go_wp2_with fail
  have K7 := told_any (r := Nat.gcd a 0) (by rw [fitN_yes LG]; exact S.lie.2.1) S.lie.1
  rw [fitE_yes LG] at K7
  refine K7.mono ?_
  clear K7
  rintro e w7 ⟨rfl, B7⟩
  have S := S.next B7
  clear B7
  go_wp2_with fail
  refine (awake_any _).mono ?_
  rintro e w19 ⟨rfl, B19⟩
  go_wp2_with fail
  go_ret
  exact ⟨rfl, below_step S.bl B19⟩
theorem walk {A A' : Option Addr} {n c n' c' : Nat} {xs ys : List Nat} {w : World} (ha : Lim w A n c xs) (hb : Lim w A' n' c' ys) : Calls Tryd.prog 4 #[.slice A n c, .slice A' n' c'] w fun e w' => e = .returned (.bool true) ∧ Below w.heap.size w w' := by
  by_cases h1 : n ≤ 70
  · by_cases h2 : n' ≤ 70
    · by_cases k1 : Nt xs
      · by_cases k2 : Nt ys
        · by_cases h : val ys = 0
          · exact zero (nt_lim ha k1).1 (nt_lim hb k2).1 (nt_lim ha k1).2 (nt_lim hb k2).2 h
          · exact plain (nt_lim ha k1).1 (nt_lim hb k2).1 (nt_lim ha k1).2 (nt_lim hb k2).2 h
        · exact wrong2 ha hb h1 h2 k1 k2
      · exact wrong1 ha hb h1 h2 k1
    · exact long2 ha hb h1 h2
  · exact long1 ha hb h1

set_option maxRecDepth 100000 in
theorem lifted (os : Os) (started : os.Started) (H : Type) (enc : TypeId × Value → H) :
    ReturnsInHanded {} Tryd.checked os 4 .any (fun w args => (Rows.natDividesSpec.pre enc Tryd.prog Tryd.f4 Rows.natDividesRow.domain false w args ∧ laidMetH Tryd.prog Rows.natDividesRow.laid w) ∧ sizedMet enc Tryd.prog Tryd.f4 (OpenSpec.ofChange Rows.natDividesSpec) false w args)
      (Rows.natDividesSpec.post enc Tryd.prog Tryd.f4 false true false false) := by
  refine returnsInHanded_of_change_and (C := Tryd.checked) (X := fun w _ => laidMetH Tryd.prog Rows.natDividesRow.laid w) (fun _ _ _ hh h => h.of_heap hh) own started (by kernel_rfl) Tryd.func4
    (ChangeSpec.witness_shaped (enc := enc) (C := Tryd.checked) (os := os) (X := fun w _ => laidMetH Tryd.prog Rows.natDividesRow.laid w) false (World.laidAll Tryd.prog os Rows.natDividesRow.laid) #[.slice none 0 0, .slice none 0 0] 8 (World.laidAll_os _ _ _)
      (World.shaped_of_ZipB (by kernel_rfl) (by kernel_rfl)) (by kernel_rfl) (by kernel_rfl) (by kernel_rfl)
      (by rw [MakeChecks.laidMetH_plain _ _ _ (by kernel_rfl)]; exact laidMet_laidAll _ (by kernel_rfl) (by kernel_rfl))) ?_
  intro W base args ds gs before hval0 hW _ _ _ _
  have hval : ∀ (j : Nat) t v, Tryd.f4.params[j]? = some t → args[j]? = some v → Value.okWide Tryd.prog W .any base t v := hval0
  have hW' := hW
  obtain ⟨p, q, hA0, hV, rfl, _, _⟩ := hW
  have hA : DataW.TrodAll enc Tryd.prog W 0 (fun _ => true) true Tryd.f4.params.toList args.toList ds p := hA0
  rw [Tryd.params4] at hA hval
  obtain ⟨v0, v1, d0, d1, p0, p1, rfl, rfl, rfl, h0, h1⟩ := trodAll_two hA
  obtain ⟨rfl, rfl⟩ := trodVars_none hV
  obtain ⟨A, n, c, xs, rfl, ha⟩ := open_nat (hval 0 23 v0 rfl rfl) h0
  obtain ⟨A', n', c', ys, rfl, hb⟩ := open_nat (hval 1 23 v1 rfl rfl) h1
  clear hA0 hval0
  simp only [List.append_nil] at hW'
  have hlt : ∀ x ∈ p0 ++ p1, x.block < W.heap.size := fun x hx => by simpa using hW'.lt x hx
  refine (walk ha hb).mono fun e W' ⟨he, hbl⟩ => ?_
  subst he
  refine ⟨_, rfl, post_args hW' (fun _ _ _ => trodAll_mk1 (shut_bool Tryd.underlying4 _)) ?_ (fun _ => rfl) hbl⟩
  have t0 := Below.trod laidOut readable typed h0 hbl (fun x hx => hlt x (List.mem_append_left _ hx))
  have t1 := Below.trod laidOut readable typed h1 hbl (fun x hx => hlt x (List.mem_append_right _ hx))
  exact trodAll_mk2 t0 t1

theorem holds : Rows.NatDividesSaid :=
  OpenClaim.holds_of_wide 4 Tryd.f4 rfl rfl rfl rfl rfl rfl rfl ⟨rfl, rfl, rfl, rfl, rfl⟩ rfl rfl rfl rfl rfl (by kernel_rfl) Tryd.func4 (by kernel_rfl)
    (of_decide_eq_true (by kernel_rfl)) (by unfold Func.isWrapper; first | (rw [if_pos (by decide +kernel)]; kernel_rfl) | (rw [if_neg (by decide +kernel)]; exact ⟨rfl, rfl⟩))
    (fun os started H enc _ => lifted os started H enc)
theorem proved : Rows.NatDividesCardSaid :=
  Claim7.holds_tied_plain_at .later [] [.data, .pinned] true (true, "77147d39bdb4dc4e6390641f605e895d81b9491c8fbdada3086ea5a4c105b776") false
    holds (fun _ h => by cases h) (by kernel_rfl) (fun _ h => by cases h) natDivides_row_tie rfl ⟨rfl, rfl⟩ (by kernel_rfl) rfl
    (fun f fn hf hfn => by
      obtain rfl : f = 4 := Option.some.inj ((show Tryd.prog.funcNamed "samphire/samphirelaw02.NatDivides" = some 4 by kernel_rfl).symm.trans hf) |>.symm
      obtain rfl : fn = Tryd.f4 := (Option.some.inj (Tryd.func4.symm.trans hfn)).symm
      exact ⟨by kernel_rfl, fun j t ht => by
        rw [Tryd.params4] at ht
        have h3 : t = 23 := by
          rcases j with _ | _ | j
          · simpa using ht.symm
          · simpa using ht.symm
          · simp at ht
        subst h3
        exact (show Tryd.prog.wantsStandIn 23 = false by kernel_rfl)⟩)
    (by kernel_rfl)
#print axioms proved
end Go.Proofs.YthdpgipckgifcaaDoor.natDivides
