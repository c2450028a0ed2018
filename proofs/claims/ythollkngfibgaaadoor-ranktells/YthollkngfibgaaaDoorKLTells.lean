/- The walk of the law RankTells, over what the five calls answer. -/
import Derived.Test.YthollkngfibgaaaDoorJ12
import Derived.Test.YthollkngfibgaaaDoorJ13
namespace Go.Proofs.YthollkngfibgaaaDoor.rankTells
open Go.RowKit
open Go.Proofs.YthollkngfibgaaaDoor
set_option linter.unusedVariables false
set_option linter.unusedSimpArgs false
set_option maxHeartbeats 8000000
set_option maxRecDepth 100000
theorem walk (P : Prog10) (AW : ∀ w : World, Calls Tryd.prog 9 #[] w fun e w' => e = .returned (.bool true) ∧ Below w.heap.size w w') (a b : It) (fa : a.Fit) (fb : b.Fit) (w : World) :
    Calls Tryd.prog 3 #[itv a, itv b] w fun e w' => e = .returned (.bool true) ∧ Below w.heap.size w w' := by
  obtain ⟨ak, au, aw⟩ := a
  obtain ⟨bk, bu, bw⟩ := b
  have KF := Lib.hid AW
  obtain ⟨g, hg⟩ : ∃ g, w.heap.size = g := ⟨_, rfl⟩
  have O := ((Own.new w).alloc hg #[.string ak, .int .u64 (au : Int), .int .u64 (aw : Int)] 24).alloc (show _ = g + 1 by simp [hg]) #[.string bk, .int .u64 (bu : Int), .int .u64 (bw : Int)] 24
  by_cases h1 : ak.size ≤ 100
  · have l1 : ¬ (100 : Int) < ak.size := by omega
    by_cases h2 : bk.size ≤ 100
    · have l2 : ¬ (100 : Int) < bk.size := by omega
      have KA : Hid (∀ W : World, Calls Tryd.prog 15 #[itv ⟨ak, au, aw⟩] W fun e W' => e = .returned (.int .i64 (chk ⟨ak, au, aw⟩)) ∧ Below W.heap.size W W') := P.check ⟨ak, au, aw⟩
      obtain ⟨q1, q2, hq, hz⟩ : ∃ q1 q2 : Nat, rnk ⟨ak, au, aw⟩ = (q1, q2, chk ⟨ak, au, aw⟩) ∧ (chk ⟨ak, au, aw⟩ ≠ 0 → q1 = 0 ∧ q2 = 0) := by
        by_cases h : chk ⟨ak, au, aw⟩ = 0
        · exact ⟨_, _, by unfold rnk; rw [if_pos h, h], fun k => absurd h k⟩
        · exact ⟨0, 0, by unfold rnk; rw [if_neg h], fun _ => ⟨rfl, rfl⟩⟩
      have KR := Lib.hid (P.rank ⟨ak, au, aw⟩ fa)
      rw [hq] at KR
      have GD : Hid (chk ⟨ak, au, aw⟩ = 0 → au < 18446744073709551616 ∧ aw < 18446744073709551616 ∧ aw ≠ 0 ∧ q1 = au / Nat.gcd au aw ∧ q2 = aw / Nat.gcd au aw) := by
        intro h
        have e : rnk ⟨ak, au, aw⟩ = (au / Nat.gcd au aw, aw / Nat.gcd au aw, 0) := by unfold rnk; rw [if_pos h]
        rw [hq] at e
        injection e with e1 e2
        injection e2 with e2 _
        have w0 := (chk_zero.1 h).2
        exact ⟨fa.u, fa.w, by dsimp only at w0; omega, e1, e2⟩
      have M1 : Hid (∀ W : World, _) := fun W => P.cmp ⟨ak, au, aw⟩ ⟨bk, bu, bw⟩ fa fb W
      have M2 : Hid (∀ W : World, _) := fun W => refCmp10_any ⟨ak, au, aw⟩ ⟨bk, bu, bw⟩ fa fb W
      generalize cmpI ⟨ak, au, aw⟩ ⟨bk, bu, bw⟩ = cc at *
      obtain ⟨ca, hca⟩ : ∃ ca, ca = chk ⟨ak, au, aw⟩ := ⟨_, rfl⟩
      rw [← hca] at KA KR GD hz
      have HCA := Lib.hid hca
      have HZ := Lib.hid hz
      clear hq hz hca h1 h2 P fa fb
      go_enter Tryd.func3, Tryd.ntmps3
      go_upto_region 4 with fail
      clear hg
      generalize (w.alloc (.cells #[.string ak, .int .u64 (au : Int), .int .u64 (aw : Int)] 24)).alloc (.cells #[.string bk, .int .u64 (bu : Int), .int .u64 (bw : Int)] 24) = W0 at *
      generalize g + 1 = r at *
      obtain ⟨a0, a1, a2⟩ := (O.box 0 g _ rfl).2.three
      obtain ⟨z7, hz7⟩ : ∃ z7 : Int, z7 = if aw = 0 then 7 else 0 := ⟨_, rfl⟩
      have HZ7 := Lib.hid hz7
      clear hz7
      go_upto_if 22 with fail
      go_cut [5] (fun s5 wx => s5 = .int .i64 z7 ∧ wx = W0)
      case first =>
        by_cases h4 : aw = 0
        · have l5 : ((aw : Int) == 0) = true := by simpa using h4
          have e : z7 = 7 := by rw [HZ7.out, if_pos h4]
          subst e
          clear h4
          go_wp2_with fail
          go_meet
          exact ⟨rfl, rfl⟩
        · have l5 : ((aw : Int) == 0) = false := by simpa using h4
          have e : z7 = 0 := by rw [HZ7.out, if_neg h4]
          subst e
          clear h4
          go_wp2_with fail
          go_meet
          exact ⟨rfl, rfl⟩
      case rest =>
        obtain ⟨rfl, hw⟩ := hcut
        have hw := hw.symm
        subst hw
        go_upto_if 26 with fail
        go_cut [5] (fun s5 wx => s5 = .int .i64 ca ∧ wx = W0)
        case first =>
          by_cases h3 : ak.size ≤ 64
          · have l3 : ¬ (64 : Int) < ak.size := by omega
            have e : ca = z7 := by
              rw [HCA.out, HZ7.out]; unfold chk; dsimp only; rw [if_neg (by omega)]
            subst e
            clear h3
            go_wp2_with fail
            go_meet
            exact ⟨rfl, rfl⟩
          · have l3 : (64 : Int) < ak.size := by omega
            have e : ca = 5 := by
              rw [HCA.out]; unfold chk; dsimp only; rw [if_pos (by omega)]
            subst e
            clear h3
            go_wp2_with fail
            go_meet
            exact ⟨rfl, rfl⟩
        case rest =>
          obtain ⟨rfl, hw⟩ := hcut
          have hw := hw.symm
          subst hw
          clear HZ7 l1 l2
          go_wp2_with fail
          refine (KR.out _).mono ?_
          rintro e W4 ⟨A1, n1, m1, A2, n2, m2, rfl, L1, L2, B4⟩
          clear a0 a1 a2
          replace O := ((O.next B4).alloc rfl #[.slice A1 n1 m1, .slice A2 n2 m2] 30).alloc rfl #[.slice none 0 0, .slice none 0 0] 30
          replace L1 := (L1.alloc (.cells #[.slice A1 n1 m1, .slice A2 n2 m2] 30)).alloc (.cells #[.slice none 0 0, .slice none 0 0] 30)
          replace L2 := (L2.alloc (.cells #[.slice A1 n1 m1, .slice A2 n2 m2] 30)).alloc (.cells #[.slice none 0 0, .slice none 0 0] 30)
          clear B4
          go_upto_if 34 with fail
          obtain ⟨V5, hV⟩ : ∃ V, V = (W4.alloc (.cells #[.slice A1 n1 m1, .slice A2 n2 m2] 30)).alloc (.cells #[.slice none 0 0, .slice none 0 0] 30) := ⟨_, rfl⟩
          simp only [World.size_alloc] at O
          rw [← hV] at O L1 L2
          try rw [← hV]
          clear hV
          generalize W4.heap.size + 1 = y at *
          generalize W4.heap.size = x at *
          replace O := Lib.hid O; replace L1 := Lib.hid L1; replace L2 := Lib.hid L2
          go_cut [5] (fun s5 wx => s5 = .int .i64 ca ∧ Hid (∃ A3 n3 m3 A4 n4 m4, Own w [(g, #[.string ak, .int .u64 (au : Int), .int .u64 (aw : Int)]), (r, #[.string bk, .int .u64 (bu : Int), .int .u64 (bw : Int)]), (x, #[.slice A1 n1 m1, .slice A2 n2 m2]), (y, #[.slice A3 n3 m3, .slice A4 n4 m4])] wx ∧ Lim wx A3 n3 m3 (limbs q1) ∧ Lim wx A4 n4 m4 (limbs q2) ∧ Lim wx A1 n1 m1 (limbs q1) ∧ Lim wx A2 n2 m2 (limbs q2)))
          case first =>
            by_cases h0 : ca = 0
            · obtain ⟨fu, fw, w0, e1, e2⟩ := GD.out h0
              subst h0
              have O1 := Lib.hid (fun W => refOf_any au fu W)
              have O2 := Lib.hid (fun W => refOf_any aw fw W)
              have MK := Lib.hid (fun (A A' : Option Addr) (n c n' c' : Nat) (W : World) (h : Lim W A n c (limbs au)) (h' : Lim W A' n' c' (limbs aw)) => reduce3_any h h' (Nat.le_trans (ln_word fu) (by decide)) (Nat.le_trans (ln_word fw) (by decide)) w0)
              rw [← e1, ← e2] at MK
              clear fu fw w0 e1 e2 GD HCA HZ KA KR KF M1 M2
              obtain ⟨a0, a1, a2⟩ := (O.out.box 0 g _ rfl).2.three
              have gy := O.out.ne 0 3 _ _ _ _ rfl rfl (by decide)
              obtain ⟨y0, y1⟩ := (O.out.box 3 y _ rfl).2.two
              go_upto_region 11 with fail
              go_region_held3 (fun w' => w'.cell? ⟨g, 1, none⟩ = some (.int .u64 (au : Int)) ∧ w'.cell? ⟨g, 2, none⟩ = some (.int .u64 (aw : Int)))
                ((refine ⟨?_, ?_⟩ <;> (repeat (first | with_reducible exact a1 | with_reducible exact a2 | with_reducible refine keep_drew ?_ | with_reducible refine keep_set10 ?_ _ (by assumption) | with_reducible refine keep_cell (by assumption) ?_))))
                (first
                  | (go_at_call 12; (with_reducible refine (O1.out _).mono ?_); rintro e v1 ⟨D1, i1, j1, rfl, K1, B1⟩)
                  | (go_at_call 12; (with_reducible refine (O2.out _).mono ?_); rintro e v2 ⟨D2, i2, j2, rfl, K2, B2⟩)
                  | (go_at_call 11; (with_reducible refine (MK.out _ _ _ _ _ _ _ ?_ ?_).mono ?_); (· repeat (first | assumption | refine Lim.next ?_ (by assumption))); (· repeat (first | assumption | refine Lim.next ?_ (by assumption))); rintro e v3 ⟨A3, n3, m3, A4, n4, m4, rfl, L3, L4, B3⟩; have BB : Below V5.heap.size V5 v3 := (by refine below_step ?_ B3; refine below_step ?_ (by assumption); refine below_step ?_ (by assumption); exact (Below.refl _ _).drew); have OO := O.out.next BB; obtain ⟨k0, k1⟩ := (OO.box 3 y _ rfl).2.two; have k2 := (OO.box 3 y _ rfl).2.melt 0; have k3 := (OO.box 3 y _ rfl).2.melt 1))
              have s := Fs.set (w := w) (W := v3) (p := []) (q := []) (l := [(A3, n3, m3, limbs q1), (A4, n4, m4, limbs q2), (A1, n1, m1, limbs q1), (A2, n2, m2, limbs q2)]) ⟨⟨L3, L4, L1.out.next BB, L2.out.next BB, trivial⟩, ⟨⟨k0, k1, k2, k3, (OO.box 3 y _ rfl).2.lt⟩, trivial⟩, OO.bl⟩ (OO.box 3 y _ rfl).1 (by simp) (.slice A3 n3 m3) (.slice A4 n4 m4)
              have ON := OO.put2 3 rfl (.slice A3 n3 m3) (.slice A4 n4 m4)
              have FIN : Hid (∃ A3' n3' m3' A4' n4' m4', Own w [(g, #[.string ak, .int .u64 (au : Int), .int .u64 (aw : Int)]), (r, #[.string bk, .int .u64 (bu : Int), .int .u64 (bw : Int)]), (x, #[.slice A1 n1 m1, .slice A2 n2 m2]), (y, #[.slice A3' n3' m3', .slice A4' n4' m4'])] ((v3.setCell ⟨y, 0, none⟩ (.slice A3 n3 m3)).setCell ⟨y, 1, none⟩ (.slice A4 n4 m4)) ∧ Lim ((v3.setCell ⟨y, 0, none⟩ (.slice A3 n3 m3)).setCell ⟨y, 1, none⟩ (.slice A4 n4 m4)) A3' n3' m3' (limbs q1) ∧ Lim ((v3.setCell ⟨y, 0, none⟩ (.slice A3 n3 m3)).setCell ⟨y, 1, none⟩ (.slice A4 n4 m4)) A4' n4' m4' (limbs q2) ∧ Lim ((v3.setCell ⟨y, 0, none⟩ (.slice A3 n3 m3)).setCell ⟨y, 1, none⟩ (.slice A4 n4 m4)) A1 n1 m1 (limbs q1) ∧ Lim ((v3.setCell ⟨y, 0, none⟩ (.slice A3 n3 m3)).setCell ⟨y, 1, none⟩ (.slice A4 n4 m4)) A2 n2 m2 (limbs q2)) :=
                ⟨A3, n3, m3, A4, n4, m4, ON, s.lie.1, s.lie.2.1, s.lie.2.2.1, s.lie.2.2.2.1⟩
              clear s ON k0 k1 k2 k3 L3 L4 OO BB y0 y1 K1 K2 B1 B2 B3
              go_wp2_with fail
              go_meet
              exact ⟨rfl, FIN⟩
            · obtain ⟨e1, e2⟩ := HZ.out h0
              have b0 : (ca == 0) = false := by simpa using h0
              have FIN : Hid (∃ A3 n3 m3 A4 n4 m4, Own w [(g, #[.string ak, .int .u64 (au : Int), .int .u64 (aw : Int)]), (r, #[.string bk, .int .u64 (bu : Int), .int .u64 (bw : Int)]), (x, #[.slice A1 n1 m1, .slice A2 n2 m2]), (y, #[.slice A3 n3 m3, .slice A4 n4 m4])] V5 ∧ Lim V5 A3 n3 m3 (limbs q1) ∧ Lim V5 A4 n4 m4 (limbs q2) ∧ Lim V5 A1 n1 m1 (limbs q1) ∧ Lim V5 A2 n2 m2 (limbs q2)) :=
                ⟨none, 0, 0, none, 0, 0, O.out, by rw [e1]; exact lim_z V5, by rw [e2]; exact lim_z V5, L1.out, L2.out⟩
              clear h0 e1 e2
              go_wp2_with fail
              go_meet
              exact ⟨rfl, FIN⟩
          case rest =>
            obtain ⟨rfl, FN⟩ := hcut
            clear O L1 L2
            obtain ⟨A3, n3, m3, A4, n4, m4, O, L3, L4, L1, L2⟩ := FN.out
            generalize wc = V6 at *
            have KT : Hid (∀ W : World, Below V6.heap.size V6 W → Calls Tryd.prog 16 #[.agg #[.slice A1 n1 m1, .slice A2 n2 m2], .agg #[.slice A3 n3 m3, .slice A4 n4 m4]] W fun e W' => e = .returned (.bool true) ∧ Below W.heap.size W W') := fun W hb => same3_yes (L1.next hb) (L2.next hb) (L3.next hb) (L4.next hb)
            clear FN L1 L2 L3 L4 GD HCA HZ KR
            obtain ⟨a0, a1, a2⟩ := (O.box 0 g _ rfl).2.three
            obtain ⟨b0, b1, b2⟩ := (O.box 1 r _ rfl).2.three
            obtain ⟨s0, s1⟩ := (O.box 2 x _ rfl).2.two
            obtain ⟨t0, t1⟩ := (O.box 3 y _ rfl).2.two
            have BL := Lib.hid O.bl
            have cb : (ca == ca) = true := by simp
            have cb2 : (cc == cc) = true := by simp
            clear O
            go_upto_region 12 with fail
            go_region_held3 (fun w' => w'.cell? ⟨g, 0, none⟩ = some (.string ak) ∧ w'.cell? ⟨g, 1, none⟩ = some (.int .u64 (au : Int)) ∧ w'.cell? ⟨g, 2, none⟩ = some (.int .u64 (aw : Int)) ∧ w'.cell? ⟨r, 0, none⟩ = some (.string bk) ∧ w'.cell? ⟨r, 1, none⟩ = some (.int .u64 (bu : Int)) ∧ w'.cell? ⟨r, 2, none⟩ = some (.int .u64 (bw : Int)) ∧ w'.cell? ⟨x, 0, none⟩ = some (.slice A1 n1 m1) ∧ w'.cell? ⟨x, 1, none⟩ = some (.slice A2 n2 m2) ∧ w'.cell? ⟨y, 0, none⟩ = some (.slice A3 n3 m3) ∧ w'.cell? ⟨y, 1, none⟩ = some (.slice A4 n4 m4))
              ((refine ⟨?_, ?_, ?_, ?_, ?_, ?_, ?_, ?_, ?_, ?_⟩ <;> (repeat (first | with_reducible exact a0 | with_reducible exact a1 | with_reducible exact a2 | with_reducible exact b0 | with_reducible exact b1 | with_reducible exact b2 | with_reducible exact s0 | with_reducible exact s1 | with_reducible exact t0 | with_reducible exact t1 | with_reducible refine keep_drew ?_ | with_reducible refine keep_set10 ?_ _ (by assumption) | with_reducible refine keep_cell (by assumption) ?_))))
              (first
                | (go_at_call 13; (with_reducible refine (M1.out _).mono ?_); rintro e v ⟨rfl, BZ⟩)
                | (go_at_call 14; (with_reducible refine (M2.out _).mono ?_); rintro e v ⟨rfl, BZ⟩)
                | (go_at_call 15; (with_reducible refine (KA.out _).mono ?_); rintro e v ⟨rfl, BZ⟩)
                | (go_at_call 16; (with_reducible refine (KT.out _ ?_).mono ?_); (· repeat (first | with_reducible exact (Below.refl _ _).drew | refine below_step ?_ (by assumption))); rintro e v ⟨rfl, BZ⟩)
                | (go_at_call 9; (with_reducible refine (KF.out _).mono ?_); rintro e v ⟨rfl, BZ⟩))
            all_goals go_wp2_with fail
            all_goals go_ret
            all_goals refine ⟨rfl, ?_⟩
            all_goals (repeat (first | with_reducible exact BL.out.drew | refine below_step ?_ (by assumption)))
    · have l2 : (100 : Int) < bk.size := by omega
      clear h2 h1
      go_enter Tryd.func3, Tryd.ntmps3
      go_wp2_with fail
      clear hg
      refine (KF.out _).mono ?_
      rintro e W9 ⟨rfl, B9⟩
      have BL := Lib.hid (below_step O.bl B9)
      clear O B9
      go_wp2_with fail
      go_ret
      exact ⟨rfl, BL.out⟩
  · have l1 : (100 : Int) < ak.size := by omega
    clear h1
    go_enter Tryd.func3, Tryd.ntmps3
    go_wp2_with fail
    clear hg
    refine (KF.out _).mono ?_
    rintro e W9 ⟨rfl, B9⟩
    have BL := Lib.hid (below_step O.bl B9)
    clear O B9
    go_wp2_with fail
    go_ret
    exact ⟨rfl, BL.out⟩
end Go.Proofs.YthollkngfibgaaaDoor.rankTells
