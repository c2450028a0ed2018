/- For any words, more words and numbers the law DrawOn answers true: draws go on where the one ahead ended; more words behind change nothing. No condition. -/
import Derived.Test.YthhphbaimpcjfaaDON
namespace Go.Proofs.Ythhphbaimpcjfaa.drawOn
open Go.ChangeShapes Go.WideShapes Go.ChangeAt Go.RowKit
open Go.Proofs.Ythhphbaimpcjfaa
set_option linter.unusedVariables false
set_option linter.unusedSimpArgs false

set_option maxHeartbeats 4000000 in
set_option maxRecDepth 100000 in
theorem walk (A A2 A3 : Option Addr) (n c n2 c2 n3 c3 : Nat) (xs ms bs : List Nat) (w : World) (HL : Wl w A n c xs) (HM : Wl w A2 n2 c2 ms) (HB : Wl w A3 n3 c3 bs) (z1 : n * 8 ≤ reachBytes) (z2 : n2 * 8 ≤ reachBytes) (y1 : A = none → n = 0 ∧ c = 0) (y2 : A2 = none → n2 = 0 ∧ c2 = 0) : Calls Try.prog 6 #[.slice A n c, .slice A2 n2 c2, .slice A3 n3 c3] w fun e w' => e = .returned (.bool true) ∧ Below w.heap.size w w' := by
  have r0 : reachBytes = 140737488351232 := by decide
  rw [r0] at z1 z2
  clear r0
  by_cases big : 60 < n + n2
  · have b1 : (60 : Int) < (n : Int) + (n2 : Int) := by omega
    clear HL HM HB y1 y2
    go_enter Try.func6, Try.ntmps6
    go_wp2_with fail
    refine (awake_any _).mono ?_
    rintro e y ⟨rfl, hy⟩
    go_wp2_with fail
    go_ret
    exact ⟨rfl, hy⟩
  by_cases big2 : 20 < n3
  · have b1 : ¬ (60 : Int) < (n : Int) + (n2 : Int) := by omega
    have b2 : (20 : Int) < n3 := by omega
    clear HL HM HB y1 y2
    go_enter Try.func6, Try.ntmps6
    go_wp2_with fail
    refine (awake_any _).mono ?_
    rintro e y ⟨rfl, hy⟩
    go_wp2_with fail
    go_ret
    exact ⟨rfl, hy⟩
  · have b1 : ¬ (60 : Int) < (n : Int) + (n2 : Int) := by omega
    have b2 : ¬ (20 : Int) < n3 := by omega
    have n60 : n ≤ 60 := by omega
    have m60 : n2 ≤ 60 := by omega
    have s60 : n + n2 ≤ 60 := by omega
    have KA := Lib.hid awake_any
    have HNX : Hid (xs.length = n) := HL.len
    have HNM : Hid (ms.length = n2) := HM.len
    have LY : Hid (Lw (xs ++ ms)) := HL.lo.append HM.lo
    obtain ⟨i1, hi, hz0, hz1, hz2⟩ := info_parts info_u64
    have HI := Lib.hid hi; have HZ0 := Lib.hid hz0; have HZ1 := Lib.hid hz1; have HZ2 := Lib.hid hz2
    have HL := Lib.hid HL; have HM := Lib.hid HM; have HB := Lib.hid HB
    have HB1 : Hid (w.heap.size ≤ (w.alloc (.cells #[] 23)).heap.size) := by unfold Hid; rw [World.size_alloc]; omega
    have O0 := Lib.hid (own_empty (w := w) w.heap.size (Nat.le_refl _))
    have BE : Below w.heap.size w (w.alloc (.cells #[] 23)) := (Below.refl _ _).alloc (Nat.le_refl _) _
    have BE := Lib.hid BE
    have EN : Hid (xs = [] ∨ ∃ ad, A = some ad) := by
      cases A with
      | none => exact Or.inl (List.eq_nil_of_length_eq_zero (by rw [HNX.out]; exact (y1 rfl).1))
      | some ad => exact Or.inr ⟨ad, rfl⟩
    clear hi hz0 hz1 hz2 big big2
    go_enter Try.func6, Try.ntmps6
    go_upto_region 3 with fail
    go_cut [7, 8] (fun s7 s8 wx => ∃ g7 g8 A8 c8, s7 = .pointer (some ⟨g7, 0, none⟩) ∧ s8 = .pointer (some ⟨g8, 0, none⟩) ∧ Two w g7 g8 #[.slice A n c, .int .i64 0] #[.slice A8 (n + n2) c8, .int .i64 0] wx ∧ Wl wx A8 (n + n2) c8 (xs ++ ms))
    case first =>
      cases A with
      | none =>
        obtain ⟨rfl, rfl⟩ := y1 rfl
        obtain rfl : xs = [] := List.eq_nil_of_length_eq_zero HNX.out
        cases A2 with
        | none =>
          obtain ⟨rfl, rfl⟩ := y2 rfl
          obtain rfl : ms = [] := List.eq_nil_of_length_eq_zero HNM.out
          have TW := two_new BE.out #[.slice none 0 0, .int .i64 0] #[.slice (some ⟨w.heap.size, 0, none⟩) 0 0, .int .i64 0] 28 28
          rw [World.size_alloc] at TW
          have TW := Lib.hid TW
          have WW := Lib.hid (((Wl.none_ (w.alloc (.cells #[] 23)) (some ⟨w.heap.size, 0, none⟩) 0 (by decide)).alloc (.cells #[.slice none 0 0, .int .i64 0] 28)).alloc (.cells #[.slice (some ⟨w.heap.size, 0, none⟩) 0 0, .int .i64 0] 28))
          go_wp2_with (at_builtin; refine wpList_append_own_none rfl _ _ 22 rfl w.heap.size 23 i1 1 Try.underlying22 HI.out _ 0 (([] : List Nat).map wd) rfl O0.out rfl ?_)
          go_meet
          go_light
          exact ⟨_, _, _, _, rfl, rfl, TW.out, WW.out⟩
        | some ad2 =>
          go_wp2_with (at_builtin; first | (refine wpList_append_own_none rfl _ _ 22 rfl w.heap.size 23 i1 1 Try.underlying22 HI.out _ 0 (([] : List Nat).map wd) rfl O0.out rfl ?_) | (refine wpList_append_own _ rfl _ _ 22 rfl w.heap.size 23 i1 (.int .u64 0) 1 8 Try.underlying22 HI.out HZ0.out HZ1.out HZ2.out rfl (by decide) _ 0 (([] : List Nat).map wd) rfl O0.out ad2 n2 c2 (ms.map wd) rfl (by simp; first | exact HNX.out | exact HNM.out) ?sc2 (one_words _) ?sc4 ?sc5 ?sc6 ?_))
          case sc2 => first | exact wl_news (HM.out.next BE.out) | exact wl_news2 (HM.out.next BE.out)
          case sc4 => unfold maxLen; omega
          case sc5 => omega
          try (case sc6 => first | exact HB1.out | exact HB2.out | (simp; done) | omega)
          intro v2 w2 hown hg _
          have OW : Hid (w2.ownsRow w.heap.size 23 1 v2 (n2) ((ms).map wd)) := by unfold Hid; simpa using hown
          have BV : Below w.heap.size w w2 := BE.out.grown hg (by first | exact HB1.out | exact HB2.out | (simp; done)) (own_base O0.out)
          clear hown hg
          rw [← List.nil_append ms] at OW
          obtain ⟨A8, c8, rfl, L8⟩ := own_wl OW.out LY.out
          have TW := Lib.hid (two_new BV #[.slice none 0 0, .int .i64 0] #[.slice A8 n2 c8, .int .i64 0] 28 28)
          have WW := Lib.hid ((L8.alloc (.cells #[.slice none 0 0, .int .i64 0] 28)).alloc (.cells #[.slice A8 n2 c8, .int .i64 0] 28))
          go_wp2_with fail
          go_meet
          go_light
          simp only [Nat.zero_add]
          exact ⟨_, _, _, _, rfl, rfl, TW.out, WW.out⟩
      | some ad =>
        go_wp2_with (at_builtin; refine wpList_append_own _ rfl _ _ 22 rfl w.heap.size 23 i1 (.int .u64 0) 1 8 Try.underlying22 HI.out HZ0.out HZ1.out HZ2.out rfl (by decide) _ 0 (([] : List Nat).map wd) rfl O0.out ad n c (xs.map wd) rfl (by simp; first | exact HNX.out | exact HNM.out) ?qc2 (one_words _) ?qc4 ?qc5 ?qc6 ?_)
        case qc2 => first | exact wl_news (HL.out.next BE.out) | exact wl_news2 (HL.out.next BE.out)
        case qc4 => unfold maxLen; omega
        case qc5 => omega
        try (case qc6 => first | exact HB1.out | exact HB2.out | (simp; done) | omega)
        intro v2 w2 hown hg _
        have OW : Hid (w2.ownsRow w.heap.size 23 1 v2 (n) ((xs).map wd)) := by unfold Hid; simpa using hown
        have BV : Below w.heap.size w w2 := BE.out.grown hg (by first | exact HB1.out | exact HB2.out | (simp; done)) (own_base O0.out)
        clear hown hg
        have HB2 : Hid (w.heap.size ≤ w2.heap.size) := BV.size
        have OV := OW
        have BV := Lib.hid BV
        clear OW
        cases A2 with
        | none =>
          obtain ⟨rfl, rfl⟩ := y2 rfl
          obtain rfl : ms = [] := List.eq_nil_of_length_eq_zero HNM.out
          rw [List.append_nil] at LY
          obtain ⟨A8, c8, rfl, L8⟩ := own_wl OV.out LY.out
          have TW := Lib.hid (two_new BV.out #[.slice (some ad) n c, .int .i64 0] #[.slice A8 n c8, .int .i64 0] 28 28)
          have WW := (L8.alloc (.cells #[.slice (some ad) n c, .int .i64 0] 28)).alloc (.cells #[.slice A8 n c8, .int .i64 0] 28)
          rw [← List.append_nil xs] at WW
          have WW := Lib.hid WW
          go_wp2_with (at_builtin; refine wpList_append_own_none rfl _ _ 22 rfl w.heap.size 23 i1 1 Try.underlying22 HI.out _ n (xs.map wd) rfl OV.out rfl ?_)
          go_meet
          go_light
          exact ⟨_, _, _, _, rfl, rfl, TW.out, WW.out⟩
        | some ad2 =>
          go_wp2_with (at_builtin; refine wpList_append_own _ rfl _ _ 22 rfl w.heap.size 23 i1 (.int .u64 0) 1 8 Try.underlying22 HI.out HZ0.out HZ1.out HZ2.out rfl (by decide) _ n (xs.map wd) rfl OV.out ad2 n2 c2 (ms.map wd) rfl (by simp; first | exact HNX.out | exact HNM.out) ?rc2 (one_words _) ?rc4 ?rc5 ?rc6 ?_)
          case rc2 => first | exact wl_news (HM.out.next BV.out) | exact wl_news2 (HM.out.next BV.out)
          case rc4 => unfold maxLen; omega
          case rc5 => omega
          try (case rc6 => first | exact HB1.out | exact HB2.out | (simp; done) | omega)
          intro v3 w3 hown hg _
          have OW : Hid (w3.ownsRow w.heap.size 23 1 v3 (n + n2) ((xs ++ ms).map wd)) := by unfold Hid; simpa using hown
          have BV := BV.out.grown hg HB2.out (own_base OV.out)
          clear hown hg
          obtain ⟨A8, c8, rfl, L8⟩ := own_wl OW.out LY.out
          have TW := Lib.hid (two_new BV #[.slice (some ad) n c, .int .i64 0] #[.slice A8 (n + n2) c8, .int .i64 0] 28 28)
          have WW := Lib.hid ((L8.alloc (.cells #[.slice (some ad) n c, .int .i64 0] 28)).alloc (.cells #[.slice A8 (n + n2) c8, .int .i64 0] 28))
          go_wp2_with fail
          go_meet
          go_light
          exact ⟨_, _, _, _, rfl, rfl, TW.out, WW.out⟩
    case rest =>
      obtain ⟨g7, g8, A8, c8, rfl, rfl, M, L8⟩ := hcut
      clear O0 BE EN HB1 HI HZ0 HZ1 HZ2 y1 y2 HNM HM
      go_wp2_with fail
      go_loopg [39] n3 (fun t s39 wr => ∃ k i : Nat, k + t = n3 ∧ s39 = .int .i64 (k : Int) ∧ i ≤ n ∧ Two w g7 g8 #[.slice A n c, .int .i64 (i : Int)] #[.slice A8 (n + n2) c8, .int .i64 (i : Int)] wr ∧ Wl wr A8 (n + n2) c8 (xs ++ ms))
      case atStart => exact ⟨0, 0, by omega, rfl, Nat.zero_le _, M, L8⟩
      case round =>
        clear M L8
        obtain ⟨k, i, hq, rfl, hin, M, L8⟩ := hrel
        have HQ := Lib.hid hq
        by_cases lt : k < n3
        · have il : (k : Int) < n3 := by omega
          have il0 : (0 : Int) ≤ k := by omega
          have kx : k < bs.length := by rw [HB.out.len]; exact lt
          obtain ⟨ad3, rfl, cx⟩ := (HB.out.next M.bl).at_ k kx
          have hd := HB.out.lo.at_ k kx
          generalize bs[k] = d at *
          have K1 := below_any A n c d (i : Int) xs wr (HL.out.next M.bl) hd
          have K2 := fun (W : World) (hb : Below wr.heap.size wr W) => below_any A8 (n + n2) c8 d (i : Int) (xs ++ ms) W (L8.next hb) hd
          rcases ans_more xs ms i d (by rw [HNX.out]; exact hin) with ⟨v, j, e1, e2, ij, jn, vd⟩ | ⟨e1, e2⟩ | e1
          · rw [e1] at K1
            rw [e2] at K2
            rw [HNX.out] at jn
            have h1 : ¬ (j : Int) < (i : Int) := by omega
            have h2 : ¬ (d : Int) ≤ (v : Int) := by omega
            have vv : ((v : Int) != v) = false := by simp
            have jj : ((j : Int) != j) = false := by simp
            have K1 := Lib.hid K1; have K2 := Lib.hid K2; have JN := Lib.hid jn
            clear e1 e2 ij jn vd hd hq lt hin
            obtain ⟨c0, c1⟩ := M.bg.two
            go_wp2_with fail
            refine K1.out.mono ?_
            rintro e w6 ⟨rfl, B6⟩
            replace M := M.next B6
            replace L8 := L8.next B6
            clear c0 c1
            go_upto_region 8 with fail
            have q12 := M.bg.lt
            have p12 := M.br.lt
            have X12 := Box.new w6 #[.slice A n c, .int .i64 (j : Int)] 28
            have D6 : Below w6.heap.size w6 (w6.alloc (.cells #[.slice A n c, .int .i64 (j : Int)] 28)) := (Below.refl _ _).alloc (Nat.le_refl _) _
            replace M := M.next D6
            replace L8 := L8.next D6
            have B6 := below_step B6 D6
            clear D6
            generalize w6.alloc (.cells #[.slice A n c, .int .i64 (j : Int)] 28) = w7 at *
            generalize w6.heap.size = g12 at *
            obtain ⟨k0, k1⟩ := M.br.two
            go_wp2_with fail
            refine (K2.out _ B6).mono ?_
            rintro e w7b ⟨rfl, B7⟩
            replace M := M.next B7
            replace L8 := L8.next B7
            replace X12 := X12.next B7
            clear k0 k1 B6 B7
            go_upto_region 9 with fail
            have q15 := M.bg.lt
            have p15 := M.br.lt
            have X15 := Box.new w7b #[.slice A8 (n + n2) c8, .int .i64 (j : Int)] 28
            have D7 : Below w7b.heap.size w7b (w7b.alloc (.cells #[.slice A8 (n + n2) c8, .int .i64 (j : Int)] 28)) := (Below.refl _ _).alloc (Nat.le_refl _) _
            replace M := M.next D7
            replace L8 := L8.next D7
            replace X12 := X12.next D7
            clear D7 K1 K2
            generalize w7b.alloc (.cells #[.slice A8 (n + n2) c8, .int .i64 (j : Int)] 28) = w8 at *
            generalize w7b.heap.size = g15 at *
            obtain ⟨a0, a1⟩ := X12.two
            obtain ⟨b0, b1⟩ := X15.two
            obtain ⟨c0, c1⟩ := M.bg.two
            obtain ⟨k0, k1⟩ := M.br.two
            have m0 := M.bg.melt 0; have m1 := M.bg.melt 1; have m2 := M.br.melt 0; have m3 := M.br.melt 1
            have ne1 := M.ne
            have ne2 : g8 ≠ g7 := Ne.symm ne1
            have ne3 : g7 ≠ g12 := by omega
            have ne4 : g12 ≠ g7 := by omega
            have ne5 : g8 ≠ g12 := by omega
            have ne6 : g12 ≠ g8 := by omega
            have ne7 : g7 ≠ g15 := by omega
            have ne8 : g15 ≠ g7 := by omega
            have ne9 : g8 ≠ g15 := by omega
            have ne10 : g15 ≠ g8 := by omega
            clear q12 p12 q15 p15
            go_upto_region 14 with fail
            go_region
            all_goals go_wp2_with fail
            clear ne1 ne2 ne3 ne4 ne5 ne6 ne7 ne8 ne9 ne10 a0 a1 b0 b1 c0 c1 k0 k1 m0 m1 m2 m3
            have T1 : Turn w8 ((w8.setCell ⟨g7, 0, none⟩ (.slice A n c)).setCell ⟨g7, 1, none⟩ (.int .i64 (j : Int))) g7 := ((Turn.refl w8 g7).setCell 0 _).setCell 1 _
            have L9 := turn_wl T1 L8 (fun ad e hn => M.bg.no_word L8 ad e hn)
            have M2 := (M.swap.put2 (.slice A n c) (.int .i64 (j : Int))).swap
            have T2 : Turn ((w8.setCell ⟨g7, 0, none⟩ (.slice A n c)).setCell ⟨g7, 1, none⟩ (.int .i64 (j : Int))) (((((w8.setCell ⟨g7, 0, none⟩ (.slice A n c)).setCell ⟨g7, 1, none⟩ (.int .i64 (j : Int))).setCell ⟨g8, 0, none⟩ (.slice A8 (n + n2) c8)).setCell ⟨g8, 1, none⟩ (.int .i64 (j : Int))).drew) g8 := (((Turn.refl _ g8).setCell 0 _).setCell 1 _).drew
            have L10 := Lib.hid (turn_wl T2 L9 (fun ad e hn => M2.br.no_word L9 ad e hn))
            have M3 := Lib.hid ((M2.put2 (.slice A8 (n + n2) c8) (.int .i64 (j : Int))).drew)
            clear T1 T2 L9 M2 M L8 X12 X15
            go_roundg (gk - 1)
            case measure => have := HQ.out; omega
            case rel =>
              go_light
              exact ⟨k + 1, j, by have := HQ.out; omega, by go_num, JN.out, M3.out, L10.out⟩
          · rw [e1] at K1
            rw [e2] at K2
            have K1 := Lib.hid K1; have K2 := Lib.hid K2
            clear e1 e2 hd hq lt hin
            obtain ⟨c0, c1⟩ := M.bg.two
            go_wp2_with fail
            refine K1.out.mono ?_
            rintro e w6 ⟨rfl, B6⟩
            replace M := M.next B6
            replace L8 := L8.next B6
            clear c0 c1
            go_upto_region 8 with fail
            have q12 := M.bg.lt
            have p12 := M.br.lt
            have X12 := Box.new w6 #[.slice A n c, .int .i64 (i : Int)] 28
            have D6 : Below w6.heap.size w6 (w6.alloc (.cells #[.slice A n c, .int .i64 (i : Int)] 28)) := (Below.refl _ _).alloc (Nat.le_refl _) _
            replace M := M.next D6
            replace L8 := L8.next D6
            have B6 := below_step B6 D6
            clear D6
            generalize w6.alloc (.cells #[.slice A n c, .int .i64 (i : Int)] 28) = w7 at *
            generalize w6.heap.size = g12 at *
            obtain ⟨k0, k1⟩ := M.br.two
            go_wp2_with fail
            refine (K2.out _ B6).mono ?_
            rintro e w7b ⟨rfl, B7⟩
            replace M := M.next B7
            replace L8 := L8.next B7
            replace X12 := X12.next B7
            clear k0 k1 B6 B7
            go_upto_region 9 with fail
            have q15 := M.bg.lt
            have p15 := M.br.lt
            have X15 := Box.new w7b #[.slice A8 (n + n2) c8, .int .i64 (i : Int)] 28
            have D7 : Below w7b.heap.size w7b (w7b.alloc (.cells #[.slice A8 (n + n2) c8, .int .i64 (i : Int)] 28)) := (Below.refl _ _).alloc (Nat.le_refl _) _
            replace M := M.next D7
            replace L8 := L8.next D7
            replace X12 := X12.next D7
            clear D7 K1 K2
            generalize w7b.alloc (.cells #[.slice A8 (n + n2) c8, .int .i64 (i : Int)] 28) = w8 at *
            generalize w7b.heap.size = g15 at *
            go_wp2_with fail
            refine (KA.out _).mono ?_
            rintro e y ⟨rfl, hy⟩
            go_wp2_with fail
            go_ret
            exact ⟨rfl, below_step M.bl hy⟩
          · rw [e1] at K1
            generalize ans (xs ++ ms) (i : Int) d = z at *
            obtain ⟨v2, q2, r2⟩ := z
            have K1 := Lib.hid K1; have K2 := Lib.hid K2
            clear e1 hd hq lt hin
            obtain ⟨c0, c1⟩ := M.bg.two
            go_wp2_with fail
            refine K1.out.mono ?_
            rintro e w6 ⟨rfl, B6⟩
            replace M := M.next B6
            replace L8 := L8.next B6
            clear c0 c1
            go_upto_region 8 with fail
            have q12 := M.bg.lt
            have p12 := M.br.lt
            have X12 := Box.new w6 #[.slice A n c, .int .i64 (i : Int)] 28
            have D6 : Below w6.heap.size w6 (w6.alloc (.cells #[.slice A n c, .int .i64 (i : Int)] 28)) := (Below.refl _ _).alloc (Nat.le_refl _) _
            replace M := M.next D6
            replace L8 := L8.next D6
            have B6 := below_step B6 D6
            clear D6
            generalize w6.alloc (.cells #[.slice A n c, .int .i64 (i : Int)] 28) = w7 at *
            generalize w6.heap.size = g12 at *
            obtain ⟨k0, k1⟩ := M.br.two
            go_wp2_with fail
            refine (K2.out _ B6).mono ?_
            rintro e w7b ⟨rfl, B7⟩
            replace M := M.next B7
            replace L8 := L8.next B7
            replace X12 := X12.next B7
            clear k0 k1 B6 B7
            go_upto_region 9 with fail
            have q15 := M.bg.lt
            have p15 := M.br.lt
            have X15 := Box.new w7b #[.slice A8 (n + n2) c8, .int .i64 q2] 28
            have D7 : Below w7b.heap.size w7b (w7b.alloc (.cells #[.slice A8 (n + n2) c8, .int .i64 q2] 28)) := (Below.refl _ _).alloc (Nat.le_refl _) _
            replace M := M.next D7
            replace L8 := L8.next D7
            replace X12 := X12.next D7
            clear D7 K1 K2
            generalize w7b.alloc (.cells #[.slice A8 (n + n2) c8, .int .i64 q2] 28) = w8 at *
            generalize w7b.heap.size = g15 at *
            go_wp2_with fail
            refine (KA.out _).mono ?_
            rintro e y ⟨rfl, hy⟩
            go_wp2_with fail
            go_ret
            exact ⟨rfl, below_step M.bl hy⟩
        · obtain rfl : n3 = k := by omega
          have il : ¬ (n3 : Int) < n3 := by omega
          have BL := M.bl
          clear M L8 hq lt
          go_wp2_with fail
          refine (KA.out _).mono ?_
          rintro e y ⟨rfl, hy⟩
          go_wp2_with fail
          go_ret
          exact ⟨rfl, below_step BL hy⟩

set_option maxRecDepth 100000 in
theorem lifted (os : Os) (started : os.Started) (H : Type) (enc : TypeId × Value → H) :
    ReturnsInHanded {} Try.checked os 6 .any (Rows.drawOnSpec.pre6 enc Try.prog Try.f6 Rows.drawOnRow.domain false) (Rows.drawOnSpec.post enc Try.prog Try.f6 false true false false) := by
  refine returnsInHanded_of_change_sized (C := Try.checked) own started (by kernel_rfl) Try.func6
    (ChangeSpec.witness6 (enc := enc) (C := Try.checked) false ⟨#[], #[.slice none 0 0, .slice none 0 0, .slice none 0 0], []⟩ 8 (by kernel_rfl) (by kernel_rfl) (by kernel_rfl) (by kernel_rfl)) ?_
  intro W base args ds gs before hval0 hW hcnd hsz _
  have hval : ∀ (j : Nat) t v, Try.f6.params[j]? = some t → args[j]? = some v → Value.okWide Try.prog W .any base t v := hval0
  have hW' := hW
  obtain ⟨p, q, hA0, hV, rfl, _, _⟩ := hW
  have hA : DataW.TrodAll enc Try.prog W 0 (fun _ => true) true Try.f6.params.toList args.toList ds p := hA0
  rw [Try.params6] at hA hval
  obtain ⟨v0, v1, v2, d0, d1, d2, p0, p1, p2, rfl, rfl, rfl, h0t, h1t, h2t⟩ := trodAll_three hA
  obtain ⟨rfl, rfl⟩ := trodVars_none hV
  rw [Try.params6] at hsz
  obtain ⟨A0, n0, c0, xs0, rfl, hs0, hz0, ha0⟩ := open_wordsz (hval 0 22 v0 rfl rfl) h0t (fun el sp e => by subst e; have q := sized_slice hsz (j := 0) (t := 22) (e := 23) rfl rfl Try.underlying22; have b8 : Try.checked.prog.bytesOf 23 = 8 := bytes_u64; rwa [b8] at q)
  obtain ⟨A1, n1, c1, xs1, rfl, hs1, hz1, ha1⟩ := open_wordsz (hval 1 22 v1 rfl rfl) h1t (fun el sp e => by subst e; have q := sized_slice hsz (j := 1) (t := 22) (e := 23) rfl rfl Try.underlying22; have b8 : Try.checked.prog.bytesOf 23 = 8 := bytes_u64; rwa [b8] at q)
  obtain ⟨A2, n2, c2, xs2, rfl, hs2, hz2, ha2⟩ := open_wordsz (hval 2 22 v2 rfl rfl) h2t (fun el sp e => by subst e; have q := sized_slice hsz (j := 2) (t := 22) (e := 23) rfl rfl Try.underlying22; have b8 : Try.checked.prog.bytesOf 23 = 8 := bytes_u64; rwa [b8] at q)
  clear hA0 hval0
  simp only [List.append_nil] at hW'
  have hlt : ∀ x ∈ p0 ++ p1 ++ p2, x.block < W.heap.size := fun x hx => by simpa using hW'.lt x (by simpa using hx)
  refine (walk A0 A1 A2 n0 c0 n1 c1 n2 c2 xs0 xs1 xs2 W hs0 hs1 hs2 hz0 hz1 ha0 ha1).mono fun e W' ⟨he, hbl⟩ => ?_
  subst he
  refine ⟨_, rfl, post_args hW' (fun _ _ _ => trodAll_mk1 (shut_bool Try.underlying4 _)) ?_ (fun _ => rfl) hbl⟩
  have t0 := Below.trod laidOut readable_words typed_words h0t hbl (fun x hx => hlt x (List.mem_append_left _ (List.mem_append_left _ hx)))
  have t1 := Below.trod laidOut readable_words typed_words h1t hbl (fun x hx => hlt x (List.mem_append_left _ (List.mem_append_right _ hx)))
  have t2 := Below.trod laidOut readable_words typed_words h2t hbl (fun x hx => hlt x (List.mem_append_right _ hx))
  exact (List.append_assoc p0 p1 p2) ▸ trodAll_mk3 t0 t1 t2

theorem proved : Rows.DrawOnSaid :=
  OpenClaim.holds_of_wide 6 Try.f6 rfl rfl rfl rfl rfl rfl rfl ⟨rfl, rfl, rfl, rfl, rfl⟩ rfl rfl rfl rfl rfl (by kernel_rfl) Try.func6 (by kernel_rfl)
    (of_decide_eq_true (by kernel_rfl)) (by unfold Func.isWrapper; first | (rw [if_pos (by decide +kernel)]; kernel_rfl) | (rw [if_neg (by decide +kernel)]; exact ⟨rfl, rfl⟩))
    (fun os started H enc _ => lifted os started H enc)
#print axioms proved
end Go.Proofs.Ythhphbaimpcjfaa.drawOn
