/- The walk of the law RankOrder, over what the five calls answer. -/
import Derived.Test.YthollkngfibgaaaDoorJ10
import Derived.Test.YthollkngfibgaaaDoorJ13
namespace Go.Proofs.YthollkngfibgaaaDoor.rankOrder
open Go.RowKit
open Go.Proofs.YthollkngfibgaaaDoor
set_option linter.unusedVariables false
set_option linter.unusedSimpArgs false
set_option maxHeartbeats 8000000
set_option maxRecDepth 100000
theorem rnk_is {x : It} (f : x.Fit) (h : chk x = 0) : ∃ p q, rnk x = (p, q, 0) ∧ Is p q x.u x.w 2 2 := by
  have h2 := chk_zero.1 h
  obtain ⟨p, q, hi⟩ := is_of (x := x.u) (y := x.w) (by omega) (ln_word f.u) (ln_word f.w)
  refine ⟨p, q, ?_, hi⟩
  have e := hi.eq
  unfold rnk
  rw [if_pos h]
  exact e
theorem walk (P : Prog10) (AW : ∀ w : World, Calls Tryd.prog 9 #[] w fun e w' => e = .returned (.bool true) ∧ Below w.heap.size w w') (a b c : It) (fa : a.Fit) (fb : b.Fit) (fc : c.Fit) (w : World) :
    Calls Tryd.prog 5 #[itv a, itv b, itv c] w fun e w' => e = .returned (.bool true) ∧ Below w.heap.size w w' := by
  obtain ⟨ak, au, aw⟩ := a
  obtain ⟨bk, bu, bw⟩ := b
  obtain ⟨ck, cu, cw⟩ := c
  have KF := Lib.hid AW
  have KA := Lib.hid (P.check ⟨ak, au, aw⟩)
  have KB := Lib.hid (P.check ⟨bk, bu, bw⟩)
  have KC := Lib.hid (P.check ⟨ck, cu, cw⟩)
  obtain ⟨g, hg⟩ : ∃ g, w.heap.size = g := ⟨_, rfl⟩
  have O := (((Own.new w).alloc hg #[.string ak, .int .u64 (au : Int), .int .u64 (aw : Int)] 24).alloc (show _ = g + 1 by simp [hg]) #[.string bk, .int .u64 (bu : Int), .int .u64 (bw : Int)] 24).alloc (show _ = g + 1 + 1 by simp [hg]) #[.string ck, .int .u64 (cu : Int), .int .u64 (cw : Int)] 24
  obtain ⟨ca, hca⟩ : ∃ c, c = chk ⟨ak, au, aw⟩ := ⟨_, rfl⟩
  obtain ⟨cb, hcb⟩ : ∃ c, c = chk ⟨bk, bu, bw⟩ := ⟨_, rfl⟩
  obtain ⟨cc, hcc⟩ : ∃ c, c = chk ⟨ck, cu, cw⟩ := ⟨_, rfl⟩
  rw [← hca] at KA
  rw [← hcb] at KB
  rw [← hcc] at KC
  by_cases ha : ca = 0
  · by_cases hb : cb = 0
    · by_cases hc : cc = 0
      · have M1 : Hid (∀ W : World, _) := fun W => P.cmp ⟨ak, au, aw⟩ ⟨bk, bu, bw⟩ fa fb W
        have M2 : Hid (∀ W : World, _) := fun W => P.cmp ⟨bk, bu, bw⟩ ⟨ck, cu, cw⟩ fb fc W
        have M3 : Hid (∀ W : World, _) := fun W => P.cmp ⟨ak, au, aw⟩ ⟨ck, cu, cw⟩ fa fc W
        have M4 : Hid (∀ W : World, _) := fun W => P.cmp ⟨bk, bu, bw⟩ ⟨ak, au, aw⟩ fb fa W
        have K4 := Lib.hid (P.rank ⟨ak, au, aw⟩ fa)
        have K5 := Lib.hid (P.rank ⟨bk, bu, bw⟩ fb)
        obtain ⟨p, q', e1, i1⟩ := rnk_is fa (by rw [← hca]; exact ha)
        obtain ⟨p', q'', e2, i2⟩ := rnk_is fb (by rw [← hcb]; exact hb)
        rw [e1] at K4
        rw [e2] at K5
        have FP := Lib.hid (i1.fq (by decide) (by decide))
        have FQ := Lib.hid (i2.fq (by decide) (by decide))
        have CN := i1.cmp i2 (by decide) (by decide)
        have QN := Lib.hid CN.1
        have QE := Lib.hid CN.2
        dsimp only at QN
        have wa := (chk_zero.1 (hca.symm.trans ha)).2
        have wb := (chk_zero.1 (hcb.symm.trans hb)).2
        have wc := (chk_zero.1 (hcc.symm.trans hc)).2
        obtain ⟨x1, hx1⟩ : ∃ x, x = cmpI ⟨ak, au, aw⟩ ⟨bk, bu, bw⟩ := ⟨_, rfl⟩
        obtain ⟨x2, hx2⟩ : ∃ x, x = cmpI ⟨bk, bu, bw⟩ ⟨ck, cu, cw⟩ := ⟨_, rfl⟩
        obtain ⟨x3, hx3⟩ : ∃ x, x = cmpI ⟨ak, au, aw⟩ ⟨ck, cu, cw⟩ := ⟨_, rfl⟩
        obtain ⟨x4, hx4⟩ : ∃ x, x = cmpI ⟨bk, bu, bw⟩ ⟨ak, au, aw⟩ := ⟨_, rfl⟩
        have T1 : Hid (0 < x1 ∨ 0 < x2 ∨ x3 ≤ 0) := by
          unfold Hid
          by_cases h1 : x1 ≤ 0
          · by_cases h2 : x2 ≤ 0
            · exact .inr (.inr (by rw [hx3]; exact cmpI_trans wb wc wa (by rw [← hx1]; exact h1) (by rw [← hx2]; exact h2)))
            · exact .inr (.inl (by omega))
          · exact .inl (by omega)
        have T2 : Hid (x1 < 0 ∨ x2 < 0 ∨ 0 ≤ x3) := by
          unfold Hid
          by_cases h1 : 0 ≤ x1
          · by_cases h2 : 0 ≤ x2
            · have h3 := cmpI_trans (a := ⟨ck, cu, cw⟩) (b := ⟨bk, bu, bw⟩) (c := ⟨ak, au, aw⟩) wb wa wc (by have := cmpI_anti ⟨bk, bu, bw⟩ ⟨ck, cu, cw⟩; omega) (by have := cmpI_anti ⟨ak, au, aw⟩ ⟨bk, bu, bw⟩; omega)
              exact .inr (.inr (by have := cmpI_anti ⟨ak, au, aw⟩ ⟨ck, cu, cw⟩; omega))
            · exact .inr (.inl (by omega))
          · exact .inl (by omega)
        have N4 : IntKind.i64.wrap (-x4) = x1 := by
          have a1 := cmpI_anti ⟨ak, au, aw⟩ ⟨bk, bu, bw⟩
          have a2 := cmpI_cases ⟨ak, au, aw⟩ ⟨bk, bu, bw⟩
          rw [IntKind.wrap_i64]; omega
        obtain ⟨d, hd⟩ : ∃ d, d = sgn (au * bw) (bu * aw) := ⟨_, rfl⟩
        have DC : (d ≠ 0 ∧ x1 = d) ∨ (d = 0 ∧ ak = bk ∧ x1 = 0) ∨ (d = 0 ∧ (ak.toList == bk.toList) = false ∧ x1 ≠ 0) := by
          by_cases h0 : d = 0
          · by_cases hk : ak = bk
            · exact .inr (.inl ⟨h0, hk, by rw [hx1]; exact cmpI_zero.2 ⟨sgn_zero.1 (hd.symm.trans h0), hk⟩⟩)
            · refine .inr (.inr ⟨h0, ?_, fun e => hk (cmpI_zero.1 (hx1.symm.trans e)).2⟩)
              cases q : (ak.toList == bk.toList) with
              | false => rfl
              | true => exact absurd (text_eq (eq_of_beq q)) hk
          · refine .inl ⟨h0, ?_⟩
            rw [hx1, hd]
            unfold cmpI
            dsimp only
            rw [if_neg (by rw [← hd]; exact h0)]
        rw [← hd] at QN
        rw [← hx1] at M1
        rw [← hx2] at M2
        rw [← hx3] at M3
        rw [← hx4] at M4
        have HDC := Lib.hid DC
        subst ha hb hc
        clear hca hcb hcc hx1 hx2 hx3 hx4 hd wa wb wc e1 e2 i1 i2 CN fa fb fc P DC
        go_enter Tryd.func5, Tryd.ntmps5
        go_wp2_with fail
        clear hg
        generalize ((w.alloc (.cells #[.string ak, .int .u64 (au : Int), .int .u64 (aw : Int)] 24)).alloc (.cells #[.string bk, .int .u64 (bu : Int), .int .u64 (bw : Int)] 24)).alloc (.cells #[.string ck, .int .u64 (cu : Int), .int .u64 (cw : Int)] 24) = W0 at *
        generalize g + 1 + 1 = q at *
        generalize g + 1 = r at *
        refine (KA.out _).mono ?_
        rintro e W1 ⟨rfl, B1⟩
        replace O := O.next B1
        clear B1
        obtain ⟨a0, a1, a2⟩ := (O.box 0 g _ rfl).2.three
        obtain ⟨b0, b1, b2⟩ := (O.box 1 r _ rfl).2.three
        obtain ⟨c0, c1, c2⟩ := (O.box 2 q _ rfl).2.three
        go_wp2_with fail
        refine (KB.out _).mono ?_
        rintro e W2 ⟨rfl, B2⟩
        clear a0 a1 a2 b0 b1 b2 c0 c1 c2
        replace O := O.next B2
        clear B2
        obtain ⟨a0, a1, a2⟩ := (O.box 0 g _ rfl).2.three
        obtain ⟨b0, b1, b2⟩ := (O.box 1 r _ rfl).2.three
        obtain ⟨c0, c1, c2⟩ := (O.box 2 q _ rfl).2.three
        go_wp2_with fail
        refine (KC.out _).mono ?_
        rintro e W2 ⟨rfl, B2⟩
        clear a0 a1 a2 b0 b1 b2 c0 c1 c2
        replace O := O.next B2
        clear B2
        obtain ⟨a0, a1, a2⟩ := (O.box 0 g _ rfl).2.three
        obtain ⟨b0, b1, b2⟩ := (O.box 1 r _ rfl).2.three
        obtain ⟨c0, c1, c2⟩ := (O.box 2 q _ rfl).2.three
        go_upto_region 3 with fail
        go_region_held3 (fun w' => w'.cell? ⟨g, 0, none⟩ = some (.string ak) ∧ w'.cell? ⟨g, 1, none⟩ = some (.int .u64 (au : Int)) ∧ w'.cell? ⟨g, 2, none⟩ = some (.int .u64 (aw : Int)) ∧ w'.cell? ⟨r, 0, none⟩ = some (.string bk) ∧ w'.cell? ⟨r, 1, none⟩ = some (.int .u64 (bu : Int)) ∧ w'.cell? ⟨r, 2, none⟩ = some (.int .u64 (bw : Int)) ∧ w'.cell? ⟨q, 0, none⟩ = some (.string ck) ∧ w'.cell? ⟨q, 1, none⟩ = some (.int .u64 (cu : Int)) ∧ w'.cell? ⟨q, 2, none⟩ = some (.int .u64 (cw : Int)))
          ((refine ⟨?_, ?_, ?_, ?_, ?_, ?_, ?_, ?_, ?_⟩ <;> (repeat (first | with_reducible exact a0 | with_reducible exact a1 | with_reducible exact a2 | with_reducible exact b0 | with_reducible exact b1 | with_reducible exact b2 | with_reducible exact c0 | with_reducible exact c1 | with_reducible exact c2 | with_reducible refine keep_drew ?_ | with_reducible refine keep_cell (by assumption) ?_))))
          (first
            | (go_at_call 13; (with_reducible refine (M1.out _).mono ?_); rintro e v ⟨rfl, BZ⟩)
            | (go_at_call 13; (with_reducible refine (M2.out _).mono ?_); rintro e v ⟨rfl, BZ⟩)
            | (go_at_call 13; (with_reducible refine (M3.out _).mono ?_); rintro e v ⟨rfl, BZ⟩))
        rename_i v1 B1 v2 B2 H9
        clear a0 a1 a2 b0 b1 b2 c0 c1 c2 H9
        replace O := ((O.drew.next B1).next B2).next BZ
        clear B1 B2 BZ
        obtain ⟨a0, a1, a2⟩ := (O.box 0 g _ rfl).2.three
        obtain ⟨b0, b1, b2⟩ := (O.box 1 r _ rfl).2.three
        go_upto_region 5 with (first | (go_at_call 10; (with_reducible refine (K4.out _).mono ?_); rintro e W4 ⟨A1, n1, m1, A2, n2, m2, rfl, L1, L2, B4⟩))
        clear a0 a1 a2 b0 b1 b2
        replace O := (O.next B4).alloc rfl #[.slice A1 n1 m1, .slice A2 n2 m2] 30
        replace L1 := L1.alloc (.cells #[.slice A1 n1 m1, .slice A2 n2 m2] 30)
        replace L2 := L2.alloc (.cells #[.slice A1 n1 m1, .slice A2 n2 m2] 30)
        clear B4
        generalize W4.alloc (.cells #[.slice A1 n1 m1, .slice A2 n2 m2] 30) = W5 at *
        generalize W4.heap.size = x at *
        obtain ⟨b0, b1, b2⟩ := (O.box 1 r _ rfl).2.three
        go_upto_region 6 with (first | (go_at_call 10; (with_reducible refine (K5.out _).mono ?_); rintro e W6 ⟨A3, n3, m3, A4, n4, m4, rfl, L3, L4, B6⟩))
        clear b0 b1 b2
        replace O := (O.next B6).alloc rfl #[.slice A3 n3 m3, .slice A4 n4 m4] 30
        replace L1 := (L1.next B6).alloc (.cells #[.slice A3 n3 m3, .slice A4 n4 m4] 30)
        replace L2 := (L2.next B6).alloc (.cells #[.slice A3 n3 m3, .slice A4 n4 m4] 30)
        replace L3 := L3.alloc (.cells #[.slice A3 n3 m3, .slice A4 n4 m4] 30)
        replace L4 := L4.alloc (.cells #[.slice A3 n3 m3, .slice A4 n4 m4] 30)
        clear B6
        generalize W6.alloc (.cells #[.slice A3 n3 m3, .slice A4 n4 m4] 30) = V at *
        generalize W6.heap.size = y at *
        have KQ := ratCmp_any L1 L2 L3 L4 FP.out FQ.out
        rw [QN.out, QE.out] at KQ
        replace KQ := Lib.hid KQ
        obtain ⟨s0, s1⟩ := (O.box 3 x _ rfl).2.two
        obtain ⟨t0, t1⟩ := (O.box 4 y _ rfl).2.two
        clear L1 L2 L3 L4
        go_upto_region 7 with (first | (go_at_call 23; (with_reducible refine (KQ.out).mono ?_); rintro e W7 ⟨rfl, B7⟩))
        clear s0 s1 t0 t1
        replace O := O.next B7
        clear B7 KQ
        obtain ⟨a0, a1, a2⟩ := (O.box 0 g _ rfl).2.three
        obtain ⟨b0, b1, b2⟩ := (O.box 1 r _ rfl).2.three
        rcases HDC.out with ⟨d0, e0⟩ | ⟨d0, kn, e0⟩ | ⟨d0, kn, x0⟩
        · have d1 : (d == 0) = false := by simpa using d0
          subst e0
          go_wp2_with fail
          refine (M4.out _).mono ?_
          rintro e W8 ⟨rfl, B8⟩
          clear a0 a1 a2 b0 b1 b2
          replace O := O.next B8
          clear B8
          obtain ⟨a0, a1, a2⟩ := (O.box 0 g _ rfl).2.three
          obtain ⟨b0, b1, b2⟩ := (O.box 1 r _ rfl).2.three
          have BL := Lib.hid O.bl
          clear O HDC
          go_upto_region 9 with fail
          clear a0 a1 a2 b0 b1 b2
          have t1 := T1.out
          have t2 := T2.out
          clear T1 T2
          rcases Int.lt_trichotomy x1 0 with p1 | p1 | p1 <;> rcases Int.lt_trichotomy x2 0 with p2 | p2 | p2
          all_goals first
            | (exfalso; omega)
            | skip
          all_goals
            (first | (have u1 : (0 : Int) < x1 := by omega) | (have u1 : ¬ (0 : Int) < x1 := by omega))
            (first | (have u2 : x1 < 0 := by omega) | (have u2 : ¬ x1 < 0 := by omega))
            (first | (have v1 : (0 : Int) < x2 := by omega) | (have v1 : ¬ (0 : Int) < x2 := by omega))
            (first | (have v2 : x2 < 0 := by omega) | (have v2 : ¬ x2 < 0 := by omega))
            (first | (have w1 : x3 ≤ 0 := by omega) | skip)
            (first | (have w2 : (0 : Int) ≤ x3 := by omega) | skip)
            clear t1 t2 p1 p2
            go_wp2_with fail
            refine (KF.out _).mono ?_
            rintro e W9 ⟨rfl, B9⟩
            go_wp2_with fail
            go_ret
            exact ⟨rfl, below_step BL.out B9⟩
        · subst d0 kn e0
          go_wp2_with fail
          refine (M4.out _).mono ?_
          rintro e W8 ⟨rfl, B8⟩
          clear a0 a1 a2 b0 b1 b2
          replace O := O.next B8
          clear B8
          obtain ⟨a0, a1, a2⟩ := (O.box 0 g _ rfl).2.three
          obtain ⟨b0, b1, b2⟩ := (O.box 1 r _ rfl).2.three
          have BL := Lib.hid O.bl
          clear O HDC
          go_upto_region 9 with fail
          clear a0 a1 a2 b0 b1 b2
          have t1 := T1.out
          have t2 := T2.out
          clear T1 T2
          rcases Int.lt_trichotomy x2 0 with p2 | p2 | p2
          all_goals
            (first | (have v1 : (0 : Int) < x2 := by omega) | (have v1 : ¬ (0 : Int) < x2 := by omega))
            (first | (have v2 : x2 < 0 := by omega) | (have v2 : ¬ x2 < 0 := by omega))
            (first | (have w1 : x3 ≤ 0 := by omega) | skip)
            (first | (have w2 : (0 : Int) ≤ x3 := by omega) | skip)
            clear t1 t2 p2
            go_wp2_with fail
            refine (KF.out _).mono ?_
            rintro e W9 ⟨rfl, B9⟩
            go_wp2_with fail
            go_ret
            exact ⟨rfl, below_step BL.out B9⟩
        · subst d0
          have d1 : (x1 == 0) = false := by simpa using x0
          go_wp2_with fail
          refine (M4.out _).mono ?_
          rintro e W8 ⟨rfl, B8⟩
          clear a0 a1 a2 b0 b1 b2
          replace O := O.next B8
          clear B8
          obtain ⟨a0, a1, a2⟩ := (O.box 0 g _ rfl).2.three
          obtain ⟨b0, b1, b2⟩ := (O.box 1 r _ rfl).2.three
          have BL := Lib.hid O.bl
          clear O HDC
          go_upto_region 9 with fail
          clear a0 a1 a2 b0 b1 b2
          have t1 := T1.out
          have t2 := T2.out
          clear T1 T2
          rcases Int.lt_trichotomy x1 0 with p1 | p1 | p1 <;> rcases Int.lt_trichotomy x2 0 with p2 | p2 | p2
          all_goals first
            | (exfalso; omega)
            | skip
          all_goals
            (first | (have u1 : (0 : Int) < x1 := by omega) | (have u1 : ¬ (0 : Int) < x1 := by omega))
            (first | (have u2 : x1 < 0 := by omega) | (have u2 : ¬ x1 < 0 := by omega))
            (first | (have v1 : (0 : Int) < x2 := by omega) | (have v1 : ¬ (0 : Int) < x2 := by omega))
            (first | (have v2 : x2 < 0 := by omega) | (have v2 : ¬ x2 < 0 := by omega))
            (first | (have w1 : x3 ≤ 0 := by omega) | skip)
            (first | (have w2 : (0 : Int) ≤ x3 := by omega) | skip)
            clear t1 t2 p1 p2
            go_wp2_with fail
            refine (KF.out _).mono ?_
            rintro e W9 ⟨rfl, B9⟩
            go_wp2_with fail
            go_ret
            exact ⟨rfl, below_step BL.out B9⟩
      · have b9 : (cc == 0) = false := by simpa using hc
        subst ha hb
        clear hca hcb hcc fa fb fc P
        go_enter Tryd.func5, Tryd.ntmps5
        go_wp2_with fail
        clear hg
        generalize ((w.alloc (.cells #[.string ak, .int .u64 (au : Int), .int .u64 (aw : Int)] 24)).alloc (.cells #[.string bk, .int .u64 (bu : Int), .int .u64 (bw : Int)] 24)).alloc (.cells #[.string ck, .int .u64 (cu : Int), .int .u64 (cw : Int)] 24) = W0 at *
        generalize g + 1 + 1 = q at *
        generalize g + 1 = r at *
        refine (KA.out _).mono ?_
        rintro e W1 ⟨rfl, B1⟩
        replace O := O.next B1
        clear B1
        obtain ⟨a0, a1, a2⟩ := (O.box 0 g _ rfl).2.three
        obtain ⟨b0, b1, b2⟩ := (O.box 1 r _ rfl).2.three
        obtain ⟨c0, c1, c2⟩ := (O.box 2 q _ rfl).2.three
        go_wp2_with fail
        refine (KB.out _).mono ?_
        rintro e W2 ⟨rfl, B2⟩
        clear a0 a1 a2 b0 b1 b2 c0 c1 c2
        replace O := O.next B2
        clear B2
        obtain ⟨a0, a1, a2⟩ := (O.box 0 g _ rfl).2.three
        obtain ⟨b0, b1, b2⟩ := (O.box 1 r _ rfl).2.three
        obtain ⟨c0, c1, c2⟩ := (O.box 2 q _ rfl).2.three
        go_wp2_with fail
        refine (KC.out _).mono ?_
        rintro e W2 ⟨rfl, B2⟩
        clear a0 a1 a2 b0 b1 b2 c0 c1 c2
        replace O := O.next B2
        clear B2
        obtain ⟨a0, a1, a2⟩ := (O.box 0 g _ rfl).2.three
        obtain ⟨b0, b1, b2⟩ := (O.box 1 r _ rfl).2.three
        obtain ⟨c0, c1, c2⟩ := (O.box 2 q _ rfl).2.three
        go_wp2_with fail
        refine (KF.out _).mono ?_
        rintro e W9 ⟨rfl, B9⟩
        have BL := Lib.hid O.bl
        clear O
        go_wp2_with fail
        go_ret
        exact ⟨rfl, below_step BL.out B9⟩
    · have b9 : (cb == 0) = false := by simpa using hb
      subst ha
      clear hca hcb hcc fa fb fc P
      go_enter Tryd.func5, Tryd.ntmps5
      go_wp2_with fail
      clear hg
      generalize ((w.alloc (.cells #[.string ak, .int .u64 (au : Int), .int .u64 (aw : Int)] 24)).alloc (.cells #[.string bk, .int .u64 (bu : Int), .int .u64 (bw : Int)] 24)).alloc (.cells #[.string ck, .int .u64 (cu : Int), .int .u64 (cw : Int)] 24) = W0 at *
      generalize g + 1 + 1 = q at *
      generalize g + 1 = r at *
      refine (KA.out _).mono ?_
      rintro e W1 ⟨rfl, B1⟩
      replace O := O.next B1
      clear B1
      obtain ⟨a0, a1, a2⟩ := (O.box 0 g _ rfl).2.three
      obtain ⟨b0, b1, b2⟩ := (O.box 1 r _ rfl).2.three
      obtain ⟨c0, c1, c2⟩ := (O.box 2 q _ rfl).2.three
      go_wp2_with fail
      refine (KB.out _).mono ?_
      rintro e W2 ⟨rfl, B2⟩
      clear a0 a1 a2 b0 b1 b2 c0 c1 c2
      replace O := O.next B2
      clear B2
      obtain ⟨a0, a1, a2⟩ := (O.box 0 g _ rfl).2.three
      obtain ⟨b0, b1, b2⟩ := (O.box 1 r _ rfl).2.three
      obtain ⟨c0, c1, c2⟩ := (O.box 2 q _ rfl).2.three
      go_wp2_with fail
      refine (KF.out _).mono ?_
      rintro e W9 ⟨rfl, B9⟩
      have BL := Lib.hid O.bl
      clear O
      go_wp2_with fail
      go_ret
      exact ⟨rfl, below_step BL.out B9⟩
  · have b9 : (ca == 0) = false := by simpa using ha
    clear hca hcb hcc fa fb fc P
    go_enter Tryd.func5, Tryd.ntmps5
    go_wp2_with fail
    clear hg
    generalize ((w.alloc (.cells #[.string ak, .int .u64 (au : Int), .int .u64 (aw : Int)] 24)).alloc (.cells #[.string bk, .int .u64 (bu : Int), .int .u64 (bw : Int)] 24)).alloc (.cells #[.string ck, .int .u64 (cu : Int), .int .u64 (cw : Int)] 24) = W0 at *
    generalize g + 1 + 1 = q at *
    generalize g + 1 = r at *
    refine (KA.out _).mono ?_
    rintro e W1 ⟨rfl, B1⟩
    replace O := O.next B1
    clear B1
    obtain ⟨a0, a1, a2⟩ := (O.box 0 g _ rfl).2.three
    obtain ⟨b0, b1, b2⟩ := (O.box 1 r _ rfl).2.three
    obtain ⟨c0, c1, c2⟩ := (O.box 2 q _ rfl).2.three
    go_wp2_with fail
    refine (KF.out _).mono ?_
    rintro e W9 ⟨rfl, B9⟩
    have BL := Lib.hid O.bl
    clear O
    go_wp2_with fail
    go_ret
    exact ⟨rfl, below_step BL.out B9⟩
end Go.Proofs.YthollkngfibgaaaDoor.rankOrder
