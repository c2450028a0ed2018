/- For every two lists of limbs the law NatBits answers true: a product has as many bits as both factors together, or one fewer; a sum at most one more than the longer one. No condition beyond the row; the tables of unicode/utf8 start as the program lays them (tied). -/
import Derived.Test.YthdpgipckgifcaaDoorBase
import Derived.Test.YthdpgipckgifcaaDoorNumL
namespace Go.Proofs.YthdpgipckgifcaaDoor.natBits
open Go.ChangeShapes Go.WideShapes Go.ChangeAt Go.RowKit
open Go.Proofs.YthdpgipckgifcaaDoor
set_option linter.unusedVariables false
set_option linter.unusedSimpArgs false

set_option maxHeartbeats 4000000 in
set_option maxRecDepth 100000 in
theorem long1 {A A' : Option Addr} {n c n' c' : Nat} {xs ys : List Nat} {w : World} (ha : Lim w A n c xs) (hb : Lim w A' n' c' ys) (h : ¬ n ≤ 30) : Calls Tryd.prog 8 #[.slice A n c, .slice A' n' c'] w fun e w' => e = .returned (.bool true) ∧ Below w.heap.size w w' := by
  have i1 : ¬ (n : Int) ≤ 30 := by omega
  clear ha hb h
  go_enter Tryd.func8, Tryd.ntmps8
  go_wp2_with fail
  refine (awake_any _).mono ?_
  rintro e w9 ⟨rfl, B9⟩
  go_wp2_with fail
  go_ret
  exact ⟨rfl, B9⟩
set_option maxHeartbeats 4000000 in
set_option maxRecDepth 100000 in
theorem long2 {A A' : Option Addr} {n c n' c' : Nat} {xs ys : List Nat} {w : World} (ha : Lim w A n c xs) (hb : Lim w A' n' c' ys) (h : n ≤ 30) (h' : ¬ n' ≤ 30) : Calls Tryd.prog 8 #[.slice A n c, .slice A' n' c'] w fun e w' => e = .returned (.bool true) ∧ Below w.heap.size w w' := by
  have i1 : (n : Int) ≤ 30 := by omega
  have i2 : ¬ (n' : Int) ≤ 30 := by omega
  clear ha hb h h'
  go_enter Tryd.func8, Tryd.ntmps8
  go_wp2_with fail
  refine (awake_any _).mono ?_
  rintro e w9 ⟨rfl, B9⟩
  go_wp2_with fail
  go_ret
  exact ⟨rfl, B9⟩
set_option maxHeartbeats 4000000 in
set_option maxRecDepth 100000 in
theorem wrong1 {A A' : Option Addr} {n c n' c' : Nat} {xs ys : List Nat} {w : World} (ha : Lim w A n c xs) (hb : Lim w A' n' c' ys) (h : n ≤ 30) (h' : n' ≤ 30) (k : ¬ Nt xs) : Calls Tryd.prog 8 #[.slice A n c, .slice A' n' c'] w fun e w' => e = .returned (.bool true) ∧ Below w.heap.size w w' := by
  have i1 : (n : Int) ≤ 30 := by omega
  have i2 : (n' : Int) ≤ 30 := by omega
  have RA := Lib.hid (right_no ha k)
  clear ha hb h h' k
  go_enter Tryd.func8, Tryd.ntmps8
  go_wp2_with fail
  refine RA.out.mono ?_
  rintro e w' ⟨rfl, rfl⟩
  go_wp2_with fail
  refine (awake_any _).mono ?_
  rintro e w9 ⟨rfl, B9⟩
  go_wp2_with fail
  go_ret
  exact ⟨rfl, B9⟩
set_option maxHeartbeats 4000000 in
set_option maxRecDepth 100000 in
theorem wrong2 {A A' : Option Addr} {n c n' c' : Nat} {xs ys : List Nat} {w : World} (ha : Lim w A n c xs) (hb : Lim w A' n' c' ys) (h : n ≤ 30) (h' : n' ≤ 30) (k : Nt xs) (k' : ¬ Nt ys) : Calls Tryd.prog 8 #[.slice A n c, .slice A' n' c'] w fun e w' => e = .returned (.bool true) ∧ Below w.heap.size w w' := by
  have i1 : (n : Int) ≤ 30 := by omega
  have i2 : (n' : Int) ≤ 30 := by omega
  have RA := Lib.hid (right_yes (k.eq ha.lo ▸ ha) (by unfold ln; rw [← k.eq ha.lo]; exact k.1))
  have RB := Lib.hid (right_no hb k')
  clear ha hb h h' k k'
  go_enter Tryd.func8, Tryd.ntmps8
  go_wp2_with fail
  refine RA.out.mono ?_
  rintro e w' ⟨rfl, rfl⟩
  go_wp2_with fail
  refine RB.out.mono ?_
  rintro e w' ⟨rfl, rfl⟩
  go_wp2_with fail
  refine (awake_any _).mono ?_
  rintro e w9 ⟨rfl, B9⟩
  go_wp2_with fail
  go_ret
  exact ⟨rfl, B9⟩
set_option maxHeartbeats 4000000 in
set_option maxRecDepth 100000 in
theorem main {A A' : Option Addr} {n c n' c' a b : Nat} {w : World} (ha : Lim w A n c (limbs a)) (hb : Lim w A' n' c' (limbs b)) (la : ln a ≤ 30) (lb : ln b ≤ 30) :
    Calls Tryd.prog 8 #[.slice A n c, .slice A' n' c'] w fun e w' => e = .returned (.bool true) ∧ Below w.heap.size w w' := by
  have hl := ha.len; have hl' := hb.len
  rw [limbs_length] at hl hl'
  have i1 : (n : Int) ≤ 30 := by omega
  have i2 : (n' : Int) ≤ 30 := by omega
  have lm := ln_mul la lb
  have lsum := ln_add la lb
  have RA := Lib.hid (right_yes ha (by omega)); have RB := Lib.hid (right_yes hb (by omega))
  have KM := mul_any ha hb (by omega) (by omega)
  rw [fitN_yes (by omega), fitE_yes (by omega)] at KM
  have KM := Lib.hid KM
  have S := ((Sts.start w).put ha).put hb
  obtain ⟨s1, s2⟩ := bl_add a b
  have b1 := bl_ln la; have b2 := bl_ln lb; have b3 := bl_ln lm; have b4 := bl_ln lsum
  have hm : (bl a = 0 ∧ bl (a * b) = 0) ∨ (bl a ≠ 0 ∧ bl b = 0 ∧ bl (a * b) = 0) ∨ (bl a ≠ 0 ∧ bl b ≠ 0 ∧ (bl (a * b) = bl a + bl b ∨ bl (a * b) + 1 = bl a + bl b)) := by
    by_cases za : bl a = 0
    · left
      have := bl_eq_zero za
      exact ⟨za, by rw [this, Nat.zero_mul, bl_zero]⟩
    · right
      by_cases zb : bl b = 0
      · left
        have := bl_eq_zero zb
        exact ⟨za, zb, by rw [this, Nat.mul_zero, bl_zero]⟩
      · right
        refine ⟨za, zb, bl_mul ?_ ?_⟩
        · rintro rfl; exact za bl_zero
        · rintro rfl; exact zb bl_zero
  have m1 : max (bl a : Int) (bl b : Int) ≤ (bl (a + b) : Int) := by omega
  have m2 : (bl (a + b) : Int) ≤ max (bl a : Int) (bl b : Int) + 1 := by omega
  clear ha hb hl hl'
  go_enter Tryd.func8, Tryd.ntmps8
  go_wp2_with fail
  refine RA.out.mono ?_
  rintro e w' ⟨rfl, rfl⟩
  go_wp2_with fail
  refine RB.out.mono ?_
  rintro e w' ⟨rfl, rfl⟩
  go_wp2_with fail
  refine KM.out.mono ?_
  rintro e w1 ⟨A1, n1, c1, rfl, L1, B1⟩
  have S := (S.next B1).put L1
  clear L1 B1 KM RA RB
  go_wp2_with fail
  have KA := add_any S.lie.2.2.1 S.lie.2.1 (by omega) (by omega)
  rw [fitN_yes (by omega), fitE_yes (by omega)] at KA
  refine KA.mono ?_
  rintro e w2 ⟨A2, n2, c2, rfl, L2, B2⟩
  have S := (S.next B2).put L2
  clear L2 B2 KA
  go_wp2_with fail
  refine (bits_any S.lie.2.2.2.1 (by omega)).mono ?_
  rintro e w' ⟨rfl, rfl⟩
  go_wp2_with fail
  refine (bits_any S.lie.2.2.1 (by omega)).mono ?_
  rintro e w' ⟨rfl, rfl⟩
  go_wp2_with fail
  refine (bits_any S.lie.2.1 (by omega)).mono ?_
  rintro e w' ⟨rfl, rfl⟩
  have KS := Lib.hid (bits_any S.lie.1 (by omega))
  have BL := S.bl
  have KW := Lib.hid awake_any
  generalize bl (a * b) = N at *
  generalize bl (a + b) = T at *
  generalize bl a = X at *
  generalize bl b = Y at *
  clear S lm lsum s1 s2
  have tail : True := trivial
  rcases hm with ⟨h1, h2⟩ | ⟨h1, h2, h3⟩ | ⟨h1, h2, h3⟩
  · subst h1 h2
    have q1 : ¬ (0 : Int) < ((0 : Nat) : Int) := by omega
    have q2 : (((0 : Nat) : Int) == 0) = true := by decide
    have q3 : (((0 : Nat) : Int) != 0) = false := by decide
    go_wp2_with fail
    refine KS.out.mono ?_
    rintro e w' ⟨rfl, rfl⟩
    go_wp2_with fail
    refine KS.out.mono ?_
    rintro e w' ⟨rfl, rfl⟩
    go_wp2_with fail
    refine (KW.out _).mono ?_
    rintro e w9 ⟨rfl, B9⟩
    go_wp2_with fail
    go_ret
    exact ⟨rfl, below_step BL B9⟩
  · subst h2 h3
    have q1 : (0 : Int) < (X : Int) := by omega
    have q2 : ¬ (0 : Int) < ((0 : Nat) : Int) := by omega
    have q3 : ((X : Int) == 0) = false := by simp; omega
    have q4 : (((0 : Nat) : Int) == 0) = true := by decide
    have q5 : (((0 : Nat) : Int) != 0) = false := by decide
    go_wp2_with fail
    refine KS.out.mono ?_
    rintro e w' ⟨rfl, rfl⟩
    go_wp2_with fail
    refine KS.out.mono ?_
    rintro e w' ⟨rfl, rfl⟩
    go_wp2_with fail
    refine (KW.out _).mono ?_
    rintro e w9 ⟨rfl, B9⟩
    go_wp2_with fail
    go_ret
    exact ⟨rfl, below_step BL B9⟩
  · have q1 : (0 : Int) < (X : Int) := by omega
    have q2 : (0 : Int) < (Y : Int) := by omega
    have q3 : ((X : Int) == 0) = false := by simp; omega
    have q4 : ((Y : Int) == 0) = false := by simp; omega
    rcases h3 with h3 | h3
    · have q5 : ((N : Int) != (X : Int) + (Y : Int)) = false := by simp; omega
      clear h3
      go_wp2_with fail
      refine KS.out.mono ?_
      rintro e w' ⟨rfl, rfl⟩
      go_wp2_with fail
      refine KS.out.mono ?_
      rintro e w' ⟨rfl, rfl⟩
      go_wp2_with fail
      refine (KW.out _).mono ?_
      rintro e w9 ⟨rfl, B9⟩
      go_wp2_with fail
      go_ret
      exact ⟨rfl, below_step BL B9⟩
    · have q5 : ((N : Int) != (X : Int) + (Y : Int)) = true := by simp; omega
      have q6 : ((N : Int) != (X : Int) + (Y : Int) - 1) = false := by simp; omega
      clear h3
      go_wp2_with fail
      refine KS.out.mono ?_
      rintro e w' ⟨rfl, rfl⟩
      go_wp2_with fail
      refine KS.out.mono ?_
      rintro e w' ⟨rfl, rfl⟩
      go_wp2_with fail
      refine (KW.out _).mono ?_
      rintro e w9 ⟨rfl, B9⟩
      go_wp2_with fail
      go_ret
      exact ⟨rfl, below_step BL B9⟩
theorem walk {A A' : Option Addr} {n c n' c' : Nat} {xs ys : List Nat} {w : World} (ha : Lim w A n c xs) (hb : Lim w A' n' c' ys) : Calls Tryd.prog 8 #[.slice A n c, .slice A' n' c'] w fun e w' => e = .returned (.bool true) ∧ Below w.heap.size w w' := by
  by_cases h1 : n ≤ 30
  · by_cases h2 : n' ≤ 30
    · by_cases k1 : Nt xs
      · by_cases k2 : Nt ys
        · have e1 := k1.eq ha.lo
          have e2 := k2.eq hb.lo
          have l1 : ln (val xs) = n := by rw [← limbs_length, ← e1]; exact ha.len
          have l2 : ln (val ys) = n' := by rw [← limbs_length, ← e2]; exact hb.len
          exact main (e1 ▸ ha) (e2 ▸ hb) (by omega) (by omega)
        · exact wrong2 ha hb h1 h2 k1 k2
      · exact wrong1 ha hb h1 h2 k1
    · exact long2 ha hb h1 h2
  · exact long1 ha hb h1

set_option maxRecDepth 100000 in
theorem lifted (os : Os) (started : os.Started) (H : Type) (enc : TypeId × Value → H) :
    ReturnsInHanded {} Tryd.checked os 8 .any (fun w args => (Rows.natBitsSpec.pre enc Tryd.prog Tryd.f8 Rows.natBitsRow.domain false w args ∧ laidMetH Tryd.prog Rows.natBitsRow.laid w) ∧ sizedMet enc Tryd.prog Tryd.f8 (OpenSpec.ofChange Rows.natBitsSpec) false w args)
      (Rows.natBitsSpec.post enc Tryd.prog Tryd.f8 false true false false) := by
  refine returnsInHanded_of_change_and (C := Tryd.checked) (X := fun w _ => laidMetH Tryd.prog Rows.natBitsRow.laid w) (fun _ _ _ hh h => h.of_heap hh) own started (by kernel_rfl) Tryd.func8
    (ChangeSpec.witness_shaped (enc := enc) (C := Tryd.checked) (os := os) (X := fun w _ => laidMetH Tryd.prog Rows.natBitsRow.laid w) false (World.laidAll Tryd.prog os Rows.natBitsRow.laid) #[.slice none 0 0, .slice none 0 0] 8 (World.laidAll_os _ _ _)
      (World.shaped_of_ZipB (by kernel_rfl) (by kernel_rfl)) (by kernel_rfl) (by kernel_rfl) (by kernel_rfl)
      (by rw [MakeChecks.laidMetH_plain _ _ _ (by kernel_rfl)]; exact laidMet_laidAll _ (by kernel_rfl) (by kernel_rfl))) ?_
  intro W base args ds gs before hval0 hW _ _ _ _
  have hval : ∀ (j : Nat) t v, Tryd.f8.params[j]? = some t → args[j]? = some v → Value.okWide Tryd.prog W .any base t v := hval0
  have hW' := hW
  obtain ⟨p, q, hA0, hV, rfl, _, _⟩ := hW
  have hA : DataW.TrodAll enc Tryd.prog W 0 (fun _ => true) true Tryd.f8.params.toList args.toList ds p := hA0
  rw [Tryd.params8] at hA hval
  obtain ⟨v0, v1, d0, d1, p0, p1, rfl, rfl, rfl, h0, h1⟩ := trodAll_two hA
  obtain ⟨rfl, rfl⟩ := trodVars_none hV
  obtain ⟨A, n, c, xs, rfl, ha⟩ := open_nat (hval 0 23 v0 rfl rfl) h0
  obtain ⟨A', n', c', ys, rfl, hb⟩ := open_nat (hval 1 23 v1 rfl rfl) h1
  clear hA0 hval0
  simp only [List.append_nil] at hW'
  have hlt : ∀ x ∈ p0 ++ p1, x.block < W.heap.size := fun x hx => by simpa using hW'.lt x hx
  refine (walk ha hb).mono fun e W' ⟨he, hbl⟩ => ?_
  subst he
  refine ⟨_, rfl, post_args hW' (fun _ _ _ => trodAll_mk1 (shut_bool Tryd.underlying4 _)) ?_ (fun _ => rfl) hbl⟩
  have t0 := Below.trod laidOut readable typed h0 hbl (fun x hx => hlt x (List.mem_append_left _ hx))
  have t1 := Below.trod laidOut readable typed h1 hbl (fun x hx => hlt x (List.mem_append_right _ hx))
  exact trodAll_mk2 t0 t1

theorem holds : Rows.NatBitsSaid :=
  OpenClaim.holds_of_wide 8 Tryd.f8 rfl rfl rfl rfl rfl rfl rfl ⟨rfl, rfl, rfl, rfl, rfl⟩ rfl rfl rfl rfl rfl (by kernel_rfl) Tryd.func8 (by kernel_rfl)
    (of_decide_eq_true (by kernel_rfl)) (by unfold Func.isWrapper; first | (rw [if_pos (by decide +kernel)]; kernel_rfl) | (rw [if_neg (by decide +kernel)]; exact ⟨rfl, rfl⟩))
    (fun os started H enc _ => lifted os started H enc)
theorem proved : Rows.NatBitsCardSaid :=
  Claim7.holds_tied_plain_at .later [] [.data, .pinned] true (true, "77147d39bdb4dc4e6390641f605e895d81b9491c8fbdada3086ea5a4c105b776") false
    holds (fun _ h => by cases h) (by kernel_rfl) (fun _ h => by cases h) natBits_row_tie rfl ⟨rfl, rfl⟩ (by kernel_rfl) rfl
    (fun f fn hf hfn => by
      obtain rfl : f = 8 := Option.some.inj ((show Tryd.prog.funcNamed "samphire/samphirelaw02.NatBits" = some 8 by kernel_rfl).symm.trans hf) |>.symm
      obtain rfl : fn = Tryd.f8 := (Option.some.inj (Tryd.func8.symm.trans hfn)).symm
      exact ⟨by kernel_rfl, fun j t ht => by
        rw [Tryd.params8] at ht
        have h3 : t = 23 := by
          rcases j with _ | _ | j
          · simpa using ht.symm
          · simpa using ht.symm
          · simp at ht
        subst h3
        exact (show Tryd.prog.wantsStandIn 23 = false by kernel_rfl)⟩)
    (by kernel_rfl)
#print axioms proved
end Go.Proofs.YthdpgipckgifcaaDoor.natBits
