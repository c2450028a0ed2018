/- The walk of the law RankScale, over what the five calls answer. -/
import Derived.Test.YthollkngfibgaaaDoorJ10
import Derived.Test.YthollkngfibgaaaDoorJ13
namespace Go.Proofs.YthollkngfibgaaaDoor.rankScale
open Go.RowKit
open Go.Proofs.YthollkngfibgaaaDoor
set_option linter.unusedVariables false
set_option linter.unusedSimpArgs false
set_option maxHeartbeats 8000000
set_option maxRecDepth 100000
theorem sgn_mul {n a b : Nat} (h : n ≠ 0) : sgn (a * n) (b * n) = sgn a b := by
  have h0 : 0 < n := by omega
  have e1 : a * n < b * n ↔ a < b := Nat.mul_lt_mul_right h0
  have e2 : b * n < a * n ↔ b < a := Nat.mul_lt_mul_right h0
  unfold sgn
  simp only [e1, e2]
theorem cmp_scale {k l : ByteArray} {u v n x y : Nat} (h : n ≠ 0) : cmpI ⟨k, u * n, v * n⟩ ⟨l, x, y⟩ = cmpI ⟨k, u, v⟩ ⟨l, x, y⟩ := by
  unfold cmpI
  dsimp only
  have e1 : u * n * y = u * y * n := Nat.mul_right_comm u n y
  have e2 : x * (v * n) = x * v * n := (Nat.mul_assoc x v n).symm
  rw [e1, e2, sgn_mul h]
theorem cmp_same {k : ByteArray} {u v n : Nat} : cmpI ⟨k, u, v⟩ ⟨k, u * n, v * n⟩ = 0 :=
  cmpI_zero.2 ⟨(Nat.mul_assoc u v n).symm.trans (Nat.mul_right_comm u v n), rfl⟩
theorem rnk_scale {k : ByteArray} {u v n : Nat} (h : n ≠ 0) (hc : chk ⟨k, u, v⟩ = 0) : rnk ⟨k, u * n, v * n⟩ = rnk ⟨k, u, v⟩ ∧ (rnk ⟨k, u, v⟩).2.2 = 0 := by
  have h2 := chk_zero.1 hc
  dsimp only at h2
  have hv : 0 < v * n := Nat.mul_pos h2.2 (by omega)
  have hc2 : chk ⟨k, u * n, v * n⟩ = 0 := chk_zero.2 ⟨h2.1, hv⟩
  unfold rnk
  rw [if_pos hc, if_pos hc2]
  dsimp only
  rw [Nat.gcd_mul_right, Nat.mul_div_mul_right _ _ (by omega), Nat.mul_div_mul_right _ _ (by omega)]
  exact ⟨rfl, rfl⟩
theorem walk (P : Prog10) (AW : ∀ w : World, Calls Tryd.prog 9 #[] w fun e w' => e = .returned (.bool true) ∧ Below w.heap.size w w') (a b : It) (fa : a.Fit) (fb : b.Fit) (n : Nat) (hn : n < 4294967296) (w : World) :
    Calls Tryd.prog 7 #[itv a, itv b, .int .u32 (n : Int)] w fun e w' => e = .returned (.bool true) ∧ Below w.heap.size w w' := by
  obtain ⟨ak, au, aw⟩ := a
  obtain ⟨bk, bu, bw⟩ := b
  have KF := Lib.hid AW
  have KA := Lib.hid (P.check ⟨ak, au, aw⟩)
  have KB := Lib.hid (P.check ⟨bk, bu, bw⟩)
  have D := Duo.new w #[.string ak, .int .u64 (au : Int), .int .u64 (aw : Int)] #[.string bk, .int .u64 (bu : Int), .int .u64 (bw : Int)] 24 24
  obtain ⟨g, hg⟩ : ∃ g, w.heap.size = g := ⟨_, rfl⟩
  rw [hg] at D
  obtain ⟨ca, hca⟩ : ∃ c, c = chk ⟨ak, au, aw⟩ := ⟨_, rfl⟩
  obtain ⟨cb, hcb⟩ : ∃ c, c = chk ⟨bk, bu, bw⟩ := ⟨_, rfl⟩
  rw [← hca] at KA
  rw [← hcb] at KB
  by_cases ha : ca = 0
  · by_cases hb : cb = 0
    · by_cases hz : n = 0
      · have z1 : (n : Int) = 0 := by omega
        have z2 : ((n : Int) == 0) = true := by simpa using hz
        subst ha hb
        clear hca hcb fa fb hz P
        go_enter Tryd.func7, Tryd.ntmps7
        go_wp2_with fail
        clear hg
        generalize (w.alloc (.cells #[.string ak, .int .u64 (au : Int), .int .u64 (aw : Int)] 24)).alloc (.cells #[.string bk, .int .u64 (bu : Int), .int .u64 (bw : Int)] 24) = W0 at *
        generalize g + 1 = r at *
        refine (KA.out _).mono ?_
        rintro e W1 ⟨rfl, B1⟩
        replace D := D.next B1
        clear B1
        obtain ⟨a0, a1, a2⟩ := D.bg.three
        obtain ⟨b0, b1, b2⟩ := D.br.three
        go_wp2_with fail
        refine (KB.out _).mono ?_
        rintro e W2 ⟨rfl, B2⟩
        clear a0 a1 a2 b0 b1 b2
        replace D := D.next B2
        clear B2
        obtain ⟨a0, a1, a2⟩ := D.bg.three
        obtain ⟨b0, b1, b2⟩ := D.br.three
        go_wp2_with fail
        refine (KF.out _).mono ?_
        rintro e W9 ⟨rfl, B9⟩
        have BL := Lib.hid D.bl
        clear D
        go_wp2_with fail
        go_ret
        exact ⟨rfl, below_step BL.out B9⟩
      · have z1 : ¬ (n : Int) = 0 := by omega
        have z2 : ((n : Int) == 0) = false := by simpa using hz
        by_cases hu : 4294967296 ≤ au
        · have u1 : (4294967296 : Int) ≤ au := by omega
          subst ha hb
          clear hca hcb fa fb hz P
          go_enter Tryd.func7, Tryd.ntmps7
          go_wp2_with fail
          clear hg
          generalize (w.alloc (.cells #[.string ak, .int .u64 (au : Int), .int .u64 (aw : Int)] 24)).alloc (.cells #[.string bk, .int .u64 (bu : Int), .int .u64 (bw : Int)] 24) = W0 at *
          generalize g + 1 = r at *
          refine (KA.out _).mono ?_
          rintro e W1 ⟨rfl, B1⟩
          replace D := D.next B1
          clear B1
          obtain ⟨a0, a1, a2⟩ := D.bg.three
          obtain ⟨b0, b1, b2⟩ := D.br.three
          go_wp2_with fail
          refine (KB.out _).mono ?_
          rintro e W2 ⟨rfl, B2⟩
          clear a0 a1 a2 b0 b1 b2
          replace D := D.next B2
          clear B2
          obtain ⟨a0, a1, a2⟩ := D.bg.three
          obtain ⟨b0, b1, b2⟩ := D.br.three
          go_wp2_with fail
          refine (KF.out _).mono ?_
          rintro e W9 ⟨rfl, B9⟩
          have BL := Lib.hid D.bl
          clear D
          go_wp2_with fail
          go_ret
          exact ⟨rfl, below_step BL.out B9⟩
        · have u1 : decide ((4294967296 : Int) ≤ au) = false := decide_eq_false (by omega)
          by_cases hv : 4294967296 ≤ aw
          · have v1 : (4294967296 : Int) ≤ aw := by omega
            subst ha hb
            clear hca hcb fa fb hz P
            go_enter Tryd.func7, Tryd.ntmps7
            go_wp2_with fail
            clear hg
            generalize (w.alloc (.cells #[.string ak, .int .u64 (au : Int), .int .u64 (aw : Int)] 24)).alloc (.cells #[.string bk, .int .u64 (bu : Int), .int .u64 (bw : Int)] 24) = W0 at *
            generalize g + 1 = r at *
            refine (KA.out _).mono ?_
            rintro e W1 ⟨rfl, B1⟩
            replace D := D.next B1
            clear B1
            obtain ⟨a0, a1, a2⟩ := D.bg.three
            obtain ⟨b0, b1, b2⟩ := D.br.three
            go_wp2_with fail
            refine (KB.out _).mono ?_
            rintro e W2 ⟨rfl, B2⟩
            clear a0 a1 a2 b0 b1 b2
            replace D := D.next B2
            clear B2
            obtain ⟨a0, a1, a2⟩ := D.bg.three
            obtain ⟨b0, b1, b2⟩ := D.br.three
            go_wp2_with fail
            refine (KF.out _).mono ?_
            rintro e W9 ⟨rfl, B9⟩
            have BL := Lib.hid D.bl
            clear D
            go_wp2_with fail
            go_ret
            exact ⟨rfl, below_step BL.out B9⟩
          · have v1 : decide ((4294967296 : Int) ≤ aw) = false := decide_eq_false (by omega)
            have fau := fa.u; have faw := fa.w; have fbu := fb.u; have fbw := fb.w
            have pu : au * n < 18446744073709551616 := Nat.lt_of_le_of_lt (Nat.mul_le_mul (show au ≤ 4294967295 by omega) (show n ≤ 4294967295 by omega)) (by decide)
            have pv : aw * n < 18446744073709551616 := Nat.lt_of_le_of_lt (Nat.mul_le_mul (show aw ≤ 4294967295 by omega) (show n ≤ 4294967295 by omega)) (by decide)
            have fc : It.Fit ⟨ak, au * n, aw * n⟩ := ⟨pu, pv⟩
            have K1 : Hid (∀ W : World, _) := fun W => P.cmp ⟨ak, au * n, aw * n⟩ ⟨bk, bu, bw⟩ fc fb W
            have K2 : Hid (∀ W : World, _) := fun W => P.cmp ⟨ak, au, aw⟩ ⟨bk, bu, bw⟩ fa fb W
            have K3 : Hid (∀ W : World, _) := fun W => P.cmp ⟨ak, au, aw⟩ ⟨ak, au * n, aw * n⟩ fa fc W
            have KR := Lib.hid (P.rank ⟨ak, au, aw⟩ fa)
            have KS := Lib.hid (P.rank ⟨ak, au * n, aw * n⟩ fc)
            rw [cmp_scale hz] at K1
            rw [cmp_same] at K3
            obtain ⟨e1, e2⟩ := rnk_scale (k := ak) (u := au) (v := aw) hz (by rw [← hca]; exact ha)
            rw [e1] at KS
            obtain ⟨p, hp⟩ : ∃ p, p = au * n := ⟨_, rfl⟩
            obtain ⟨q, hq⟩ : ∃ p, p = aw * n := ⟨_, rfl⟩
            rw [← hp] at K1 K3 KS
            rw [← hq] at K1 K3 KS
            have m1 : IntKind.u64.wrap ((au : Int) * (n : Int)) = (p : Int) := by rw [IntKind.wrap_u64, hp, ← Int.natCast_mul]; omega
            have m2 : IntKind.u64.wrap ((aw : Int) * (n : Int)) = (q : Int) := by rw [IntKind.wrap_u64, hq, ← Int.natCast_mul]; omega
            have m3 : IntKind.u64.wrap (n : Int) = (n : Int) := by rw [IntKind.wrap_u64]; omega
            obtain ⟨R, hR⟩ : ∃ R, R = rnk ⟨ak, au, aw⟩ := ⟨_, rfl⟩
            rw [← hR] at KR KS e2
            obtain ⟨R1, R2, R3⟩ := R
            dsimp only at e2
            subst e2
            generalize cmpI ⟨ak, au, aw⟩ ⟨bk, bu, bw⟩ = cc at *
            subst ha hb
            clear hca hcb fa fb fc hz P hp hq pu pv fau faw fbu fbw hu hv e1 hR hn
            go_enter Tryd.func7, Tryd.ntmps7
            go_wp2_with fail
            clear hg
            generalize (w.alloc (.cells #[.string ak, .int .u64 (au : Int), .int .u64 (aw : Int)] 24)).alloc (.cells #[.string bk, .int .u64 (bu : Int), .int .u64 (bw : Int)] 24) = W0 at *
            generalize g + 1 = r at *
            refine (KA.out _).mono ?_
            rintro e W1 ⟨rfl, B1⟩
            replace D := D.next B1
            clear B1
            obtain ⟨a0, a1, a2⟩ := D.bg.three
            obtain ⟨b0, b1, b2⟩ := D.br.three
            go_wp2_with fail
            refine (KB.out _).mono ?_
            rintro e W2 ⟨rfl, B2⟩
            clear a0 a1 a2 b0 b1 b2
            replace D := D.next B2
            clear B2
            obtain ⟨a0, a1, a2⟩ := D.bg.three
            obtain ⟨b0, b1, b2⟩ := D.br.three
            have O0 : Own w [(g, #[.string ak, .int .u64 (au : Int), .int .u64 (aw : Int)]), (r, #[.string bk, .int .u64 (bu : Int), .int .u64 (bw : Int)])] W2 := ⟨fun k h cs e => by
                match k, e with
                | 0, e => cases e; exact ⟨D.hg, D.bg⟩
                | 1, e => cases e; exact ⟨D.hr, D.br⟩, fun i j h h' cs cs' e e' ne => by
                match i, j, e, e' with
                | 0, 0, _, _ => exact absurd rfl ne
                | 0, 1, e, e' => cases e; cases e'; exact D.ne
                | 1, 0, e, e' => cases e; cases e'; exact D.ne.symm
                | 1, 1, _, _ => exact absurd rfl ne, D.bl⟩
            clear D
            go_upto_region 3 with fail
            clear u1 v1 z1 z2
            obtain ⟨z, hz⟩ : ∃ z, W2.heap.size = z := ⟨_, rfl⟩
            have O1 := O0.alloc hz #[.string ak, .int .u64 (p : Int), .int .u64 (q : Int)] 24
            clear O0
            go_upto_region 4 with fail
            clear hz a0 a1 a2 b0 b1 b2
            generalize W2.alloc (.cells #[.string ak, .int .u64 (p : Int), .int .u64 (q : Int)] 24) = W3 at *
            obtain ⟨a0, a1, a2⟩ := (O1.box 0 g _ rfl).2.three
            go_upto_region 5 with (first | (go_at_call 10; (with_reducible refine (KR.out _).mono ?_); rintro e W4 ⟨A1, n1, c1, A2, n2, c2, rfl, L1, L2, B4⟩))
            clear a0 a1 a2
            have O2 := (O1.next B4).alloc rfl #[.slice A1 n1 c1, .slice A2 n2 c2] 30
            replace L1 := L1.alloc (.cells #[.slice A1 n1 c1, .slice A2 n2 c2] 30)
            replace L2 := L2.alloc (.cells #[.slice A1 n1 c1, .slice A2 n2 c2] 30)
            clear O1 B4
            generalize W4.alloc (.cells #[.slice A1 n1 c1, .slice A2 n2 c2] 30) = W5 at *
            generalize W4.heap.size = x at *
            obtain ⟨d0, d1, d2⟩ := (O2.box 2 z _ rfl).2.three
            go_upto_region 6 with (first | (go_at_call 10; (with_reducible refine (KS.out _).mono ?_); rintro e W6 ⟨A3, n3, c3, A4, n4, c4, rfl, L3, L4, B6⟩))
            clear d0 d1 d2
            have O3 := (O2.next B6).alloc rfl #[.slice A3 n3 c3, .slice A4 n4 c4] 30
            replace L1 := (L1.next B6).alloc (.cells #[.slice A3 n3 c3, .slice A4 n4 c4] 30)
            replace L2 := (L2.next B6).alloc (.cells #[.slice A3 n3 c3, .slice A4 n4 c4] 30)
            replace L3 := L3.alloc (.cells #[.slice A3 n3 c3, .slice A4 n4 c4] 30)
            replace L4 := L4.alloc (.cells #[.slice A3 n3 c3, .slice A4 n4 c4] 30)
            clear O2 B6
            generalize W6.alloc (.cells #[.slice A3 n3 c3, .slice A4 n4 c4] 30) = V at *
            generalize W6.heap.size = y at *
            have KT : Hid (∀ W : World, Below V.heap.size V W → _) := fun W hb => same3_yes (L1.next hb) (L2.next hb) (L3.next hb) (L4.next hb)
            obtain ⟨a0, a1, a2⟩ := (O3.box 0 g _ rfl).2.three
            obtain ⟨b0, b1, b2⟩ := (O3.box 1 r _ rfl).2.three
            obtain ⟨d0, d1, d2⟩ := (O3.box 2 z _ rfl).2.three
            obtain ⟨x0, x1⟩ := (O3.box 3 x _ rfl).2.two
            obtain ⟨y0, y1⟩ := (O3.box 4 y _ rfl).2.two
            have BL := Lib.hid O3.bl
            clear O3 L1 L2 L3 L4
            go_region_held3 (fun w' => w'.cell? ⟨g, 0, none⟩ = some (.string ak) ∧ w'.cell? ⟨g, 1, none⟩ = some (.int .u64 (au : Int)) ∧ w'.cell? ⟨g, 2, none⟩ = some (.int .u64 (aw : Int)) ∧ w'.cell? ⟨r, 0, none⟩ = some (.string bk) ∧ w'.cell? ⟨r, 1, none⟩ = some (.int .u64 (bu : Int)) ∧ w'.cell? ⟨r, 2, none⟩ = some (.int .u64 (bw : Int)) ∧ w'.cell? ⟨z, 0, none⟩ = some (.string ak) ∧ w'.cell? ⟨z, 1, none⟩ = some (.int .u64 (p : Int)) ∧ w'.cell? ⟨z, 2, none⟩ = some (.int .u64 (q : Int)) ∧ w'.cell? ⟨x, 0, none⟩ = some (.slice A1 n1 c1) ∧ w'.cell? ⟨x, 1, none⟩ = some (.slice A2 n2 c2) ∧ w'.cell? ⟨y, 0, none⟩ = some (.slice A3 n3 c3) ∧ w'.cell? ⟨y, 1, none⟩ = some (.slice A4 n4 c4))
              ((refine ⟨?_, ?_, ?_, ?_, ?_, ?_, ?_, ?_, ?_, ?_, ?_, ?_, ?_⟩ <;> (repeat (first | with_reducible exact a0 | with_reducible exact a1 | with_reducible exact a2 | with_reducible exact b0 | with_reducible exact b1 | with_reducible exact b2 | with_reducible exact d0 | with_reducible exact d1 | with_reducible exact d2 | with_reducible exact x0 | with_reducible exact x1 | with_reducible exact y0 | with_reducible exact y1 | with_reducible refine keep_drew ?_ | with_reducible refine keep_cell (by assumption) ?_))))
              (first
                | (go_at_call 13; (with_reducible refine (K1.out _).mono ?_); rintro e v ⟨rfl, BZ⟩)
                | (go_at_call 13; (with_reducible refine (K2.out _).mono ?_); rintro e v ⟨rfl, BZ⟩)
                | (go_at_call 13; (with_reducible refine (K3.out _).mono ?_); rintro e v ⟨rfl, BZ⟩)
                | (go_at_call 16; (with_reducible refine (KT.out _ ?_).mono ?_); (· repeat (first | with_reducible exact (Below.refl _ _).drew | refine below_step ?_ (by assumption))); rintro e v ⟨rfl, BZ⟩)
                | (go_at_call 9; (with_reducible refine (KF.out _).mono ?_); rintro e v ⟨rfl, BZ⟩))
            all_goals go_wp2_with fail
            all_goals go_ret
            all_goals refine ⟨rfl, ?_⟩
            all_goals (repeat (first | with_reducible exact BL.out.drew | refine below_step ?_ (by assumption)))
    · have b9 : (cb == 0) = false := by simpa using hb
      subst ha
      clear hca hcb fa fb P
      go_enter Tryd.func7, Tryd.ntmps7
      go_wp2_with fail
      clear hg
      generalize (w.alloc (.cells #[.string ak, .int .u64 (au : Int), .int .u64 (aw : Int)] 24)).alloc (.cells #[.string bk, .int .u64 (bu : Int), .int .u64 (bw : Int)] 24) = W0 at *
      generalize g + 1 = r at *
      refine (KA.out _).mono ?_
      rintro e W1 ⟨rfl, B1⟩
      replace D := D.next B1
      clear B1
      obtain ⟨a0, a1, a2⟩ := D.bg.three
      obtain ⟨b0, b1, b2⟩ := D.br.three
      go_wp2_with fail
      refine (KB.out _).mono ?_
      rintro e W2 ⟨rfl, B2⟩
      clear a0 a1 a2 b0 b1 b2
      replace D := D.next B2
      clear B2
      obtain ⟨a0, a1, a2⟩ := D.bg.three
      obtain ⟨b0, b1, b2⟩ := D.br.three
      go_wp2_with fail
      refine (KF.out _).mono ?_
      rintro e W9 ⟨rfl, B9⟩
      have BL := Lib.hid D.bl
      clear D
      go_wp2_with fail
      go_ret
      exact ⟨rfl, below_step BL.out B9⟩
  · have b9 : (ca == 0) = false := by simpa using ha
    clear hca hcb fa fb P
    go_enter Tryd.func7, Tryd.ntmps7
    go_wp2_with fail
    clear hg
    generalize (w.alloc (.cells #[.string ak, .int .u64 (au : Int), .int .u64 (aw : Int)] 24)).alloc (.cells #[.string bk, .int .u64 (bu : Int), .int .u64 (bw : Int)] 24) = W0 at *
    generalize g + 1 = r at *
    refine (KA.out _).mono ?_
    rintro e W1 ⟨rfl, B1⟩
    replace D := D.next B1
    clear B1
    obtain ⟨a0, a1, a2⟩ := D.bg.three
    obtain ⟨b0, b1, b2⟩ := D.br.three
    go_wp2_with fail
    refine (KF.out _).mono ?_
    rintro e W9 ⟨rfl, B9⟩
    have BL := Lib.hid D.bl
    clear D
    go_wp2_with fail
    go_ret
    exact ⟨rfl, below_step BL.out B9⟩
end Go.Proofs.YthollkngfibgaaaDoor.rankScale
