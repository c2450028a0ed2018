/- The walk of the law HeapStays, over what the six calls answer. -/
import Derived.Test.YtnkhgkpijfohkaaJ07
namespace Go.Proofs.Ytnkhgkpijfohkaa.heapStays
open Go.RowKit
open Go.Proofs.Ytnkhgkpijfohkaa
set_option linter.unusedVariables false
set_option linter.unusedSimpArgs false
set_option maxHeartbeats 8000000
set_option maxRecDepth 100000
theorem small_len {l : List It} (h : smallB l = true) : l.length ≤ 60 := by
  unfold smallB at h
  rw [Bool.and_eq_true] at h
  exact of_decide_eq_true h.1
theorem pop_len {p : List It} {n : Nat} (h : p.length = n + 1) : (popL p).length = n := by
  rw [popL_len (by omega)]; omega
/-- One that stands behind all, pushed, is on top. -/
theorem push_top {l : List It} {x : It} (r : rightB l = true) (hx : mayB x = true) (h : ∀ j, j < l.length → cmpI (nth l j) x < 0) : pushA l x = (pushL l x, 0) ∧ (pushL l x).length = l.length + 1 ∧ popA (pushL l x) = (x, popL (pushL l x), 0) := by
  have r2 := rightB_push r hx
  have len := pushL_len l x
  have t : nth (pushL l x) 0 = x := by
    have hm : nth (pushL l x) 0 ∈ l ++ [x] := (pushL_perm l x).mem_iff.1 (nth_mem (by omega))
    rw [List.mem_append, List.mem_singleton] at hm
    rcases hm with hm | hm
    · exfalso
      obtain ⟨j, hj, e⟩ := List.mem_iff_getElem.1 hm
      have a := h j hj
      rw [nth_eq hj, e] at a
      have xm : x ∈ pushL l x := (pushL_perm l x).mem_iff.2 (by simp)
      obtain ⟨k, hk, ek⟩ := List.mem_iff_getElem.1 xm
      have b := (rightB_iff.1 r2).2.top (rightB_may r2) k hk
      rw [nth_eq hk, ek] at b
      have := cmpI_anti x (nth (pushL l x) 0)
      omega
    · exact hm
  refine ⟨?_, len, ?_⟩
  · unfold pushA
    rw [r, if_neg (by decide), if_neg (by rw [chk_may.2 hx]; decide)]
  · unfold popA
    rw [r2, if_neg (by decide), if_neg (by intro e; rw [e] at len; simp at len), t]
theorem walk (P : Prog11) (PC : CmpOk) (KCH : ∀ (a : It) (w : World), Calls Try.prog 17 #[itv a] w fun e w' => e = .returned (.int .i64 (chk a)) ∧ Below w.heap.size w w') (AW : ∀ w : World, Calls Try.prog 9 #[] w fun e w' => e = .returned (.bool true) ∧ Below w.heap.size w w') {A : Option Addr} {c : Nat} {l : List It} {w : World} (h : Lst w A c l) (i : Int) (hi : -9223372036854775808 ≤ i ∧ i ≤ 9223372036854775807) (x : It) (fx : x.Fit) :
    Calls Try.prog 6 #[.slice A l.length c, .int .i64 i, itv x] w fun e w' => e = .returned (.bool true) ∧ Below w.heap.size w w' := by
  have KF := Lib.hid AW
  have KX := Lib.hid (fun W => KCH x W)
  have K0 := Lib.hid (fun W (hb : Below w.heap.size w W) => refSmall10_any (h.1.next hb))
  obtain ⟨xk, xu, xw⟩ := x
  have M := One.new w #[.string xk, .int .u64 (xu : Int), .int .u64 (xw : Int)] 25
  obtain ⟨g, hg⟩ : ∃ g, w.heap.size = g := ⟨_, rfl⟩
  rw [hg] at M
  by_cases hs : smallB l = true
  · have n60 : l.length ≤ 60 := small_len hs
    rw [hs] at K0
    have K1 : Hid (∀ W : World, Below w.heap.size w W → _) := fun W hb => P.right (A := A) (c := c) ⟨h.1.next hb, h.2⟩ (by omega)
    by_cases hr : rightB l = true
    · rw [hr] at K1
      obtain ⟨cx, hcx⟩ : ∃ cx, cx = chk ⟨xk, xu, xw⟩ := ⟨_, rfl⟩
      rw [← hcx] at KX
      by_cases hx : cx = 0
      · have MX : Hid (mayB ⟨xk, xu, xw⟩ = true) := chk_may.1 (by rw [← hcx]; exact hx)
        subst hx
        have I := Lib.hid h.1
        have RT := Lib.hid hr
        have FX := Lib.hid fx
        have PC := Lib.hid PC
        have KP := Lib.hid (fun (j : Int) (y : It) (hj : -9223372036854775808 ≤ j ∧ j ≤ 9223372036854775807) (fy : y.Fit) (W : World) (hb : Below w.heap.size w W) => P.put (A := A) (c := c) ⟨h.1.next hb, h.2⟩ (by omega) j y hj fy)
        have KU := Lib.hid (fun (W : World) (hb : Below w.heap.size w W) => P.push (A := A) (c := c) ⟨h.1.next hb, h.2⟩ (by omega) ⟨xk, xu, xw⟩ fx)
        have KQ := Lib.hid (fun (B : Option Addr) (d : Nat) (W : World) (t : List It) (J : Lst W B d t) (hl : t.length = l.length + 1) => P.pop J (by omega))
        have KR := Lib.hid (fun (B : Option Addr) (d : Nat) (W : World) (t : List It) (J : Lst W B d t) (hl : t.length ≤ 61) => P.right J (by omega))
        obtain ⟨n, hn⟩ : ∃ n, n = l.length := ⟨_, rfl⟩
        rw [← hn] at K0 K1 I n60 KP KU ⊢
        have HN := Lib.hid hn
        clear h hs hr hn hcx P fx KCH AW
        go_enter Try.func6, Try.ntmps6
        go_wp2_with fail
        clear hg
        generalize w.alloc (.cells #[.string xk, .int .u64 (xu : Int), .int .u64 (xw : Int)] 25) = W0 at *
        refine (K0.out _ M.bl).mono ?_
        rintro e w1 ⟨rfl, B1⟩
        replace M := M.next B1
        clear B1
        go_wp2_with fail
        refine (K1.out _ M.bl).mono ?_
        rintro e w2 ⟨rfl, B2⟩
        replace M := M.next B2
        clear B2
        obtain ⟨x0, x1, x2⟩ := M.bg.three
        go_wp2_with fail
        refine (KX.out _).mono ?_
        rintro e w3 ⟨rfl, B3⟩
        replace M := M.next B3
        clear B3 x0 x1 x2
        go_upto_region 3 with fail
        generalize w3 = W3 at *
        obtain ⟨b, hb⟩ : ∃ b, b = decide (0 ≤ i ∧ i < n) := ⟨_, rfl⟩
        have HB := Lib.hid hb
        clear hb
        have MH := Lib.hid M
        go_cut [37] (fun sb wx => sb = .bool b ∧ wx = W3)
        case first =>
          by_cases q1 : 0 ≤ i
          · by_cases q2 : i < (n : Int)
            · have e : b = true := by rw [HB.out]; exact decide_eq_true ⟨q1, q2⟩
              subst e
              go_wp2_with fail
              go_meet
              exact ⟨rfl, rfl⟩
            · have e : b = false := by rw [HB.out]; exact decide_eq_false (fun h => q2 h.2)
              subst e
              go_wp2_with fail
              go_meet
              exact ⟨rfl, rfl⟩
          · have e : b = false := by rw [HB.out]; exact decide_eq_false (fun h => q1 h.1)
            subst e
            go_wp2_with fail
            go_meet
            exact ⟨rfl, rfl⟩
        case rest =>
          obtain ⟨rfl, hw⟩ := hcut
          have hw := hw.symm
          subst hw
          clear M
          go_upto_if 37 with fail
          go_cut [6] (fun s6 wx => s6 = .bool false ∧ Hid (One w g #[.string xk, .int .u64 (xu : Int), .int .u64 (xw : Int)] wx))
          case first =>
            cases b
            · go_wp2_with fail
              go_meet
              exact ⟨rfl, MH⟩
            · obtain ⟨q1, q2⟩ := of_decide_eq_true HB.out.symm
              obtain ⟨j, rfl⟩ := Int.eq_ofNat_of_zero_le q1
              have jn : j < n := by omega
              obtain ⟨ad, hj, rfl, a0, a1, a2, ft⟩ := (I.out.next MH.out.bl).read j jn
              have jl : j < l.length := by rw [← HN.out]; exact jn
              rw [← nth_eq jl] at a0 a1 a2 ft
              have K := Lib.hid (KP.out (j : Int) (nth l j) (by omega) ft W3 MH.out.bl)
              have E1 : Hid (putA l (j : Int) (nth l j) = (l, 0)) := by
                unfold Hid putA
                rw [RT.out, if_neg (by decide), if_neg (by omega), if_neg (by
                  have := List.all_eq_true.1 (rightB_iff.1 RT.out).1 _ (nth_mem jl)
                  rw [chk_may.2 this]; decide), show ((j : Nat) : Int).toNat = j by omega, putL_self (rightB_iff.1 RT.out).2 (rightB_may RT.out) jl]
              rw [E1.out] at K
              generalize nth l j = y at *
              clear hj ft jl
              go_wp2_with fail
              refine K.out.mono ?_
              rintro e W4 ⟨B, d, rfl, J, B4⟩
              rw [← HN.out]
              have KS := Lib.hid (refSame10_yes (show Its W4 B n d l by have := J.1; rw [← HN.out] at this; exact this) (I.out.next (below_step MH.out.bl B4)) (by omega))
              have M4 := Lib.hid (MH.out.next B4)
              clear K a0 a1 a2 J B4
              go_wp2_with fail
              refine KS.out.mono ?_
              rintro e W5 ⟨rfl, B5⟩
              have M5 := Lib.hid (M4.out.next B5)
              clear KS B5
              go_wp2_with fail
              go_meet
              exact ⟨rfl, M5⟩
          case rest =>
            obtain ⟨rfl, MR⟩ := hcut
            clear MH HB KP
            generalize wc = W6 at *
            go_wp2_with fail
            go_loopg [58] n (fun q s58 wr => ∃ k : Nat, s58 = .int .i64 (k : Int) ∧ k + q = n ∧ Hid (∀ j, j < k → cmpI (nth l j) ⟨xk, xu, xw⟩ < 0) ∧ Hid (One w g #[.string xk, .int .u64 (xu : Int), .int .u64 (xw : Int)] wr))
            case atStart => exact ⟨0, rfl, by omega, fun j h => absurd h (by omega), MR⟩
            case round =>
              obtain ⟨k, rfl, hq, LS, MK⟩ := hrel
              have HQ := Lib.hid hq
              by_cases lt : k < n
              · have k1 : (k : Int) < n := by omega
                have k0 : (0 : Int) ≤ k := by omega
                have kl : k < l.length := by rw [← HN.out]; exact lt
                obtain ⟨ad, hj, rfl, a0, a1, a2, ft⟩ := (I.out.next MK.out.bl).read k lt
                rw [← nth_eq kl] at a0 a1 a2 ft
                have K := Lib.hid (PC.out (nth l k) ⟨xk, xu, xw⟩ ft FX.out)
                have HX := Lib.hid (show nth l k = nth l k from rfl)
                obtain ⟨cc, hcc⟩ : ∃ cc, cc = cmpI (nth l k) ⟨xk, xu, xw⟩ := ⟨_, rfl⟩
                rw [← hcc] at K
                have HCC := Lib.hid hcc
                have D := MK.out.two #[.string (nth l k).k, .int .u64 ((nth l k).u : Int), .int .u64 ((nth l k).w : Int)] 25
                have LT := Lib.hid lt
                clear hj ft kl hcc lt hq HX
                obtain ⟨y, hy⟩ : ∃ y, y = nth l k := ⟨_, rfl⟩
                rw [← hy] at a0 a1 a2 K HCC D
                have HY := Lib.hid hy
                clear hy
                go_upto_region 10 with fail
                clear a0 a1 a2
                generalize hV : wr.alloc (.cells #[.string y.k, .int .u64 (y.u : Int), .int .u64 (y.w : Int)] 25) = V at *
                try rw [hV]
                clear hV
                obtain ⟨gy, hgy⟩ : ∃ gy, wr.heap.size = gy := ⟨_, rfl⟩
                rw [hgy] at D
                try rw [hgy]
                clear hgy
                obtain ⟨x0, x1, x2⟩ := D.bg.three
                obtain ⟨y0, y1, y2⟩ := D.br.three
                go_wp2_with fail
                refine (K.out _).mono ?_
                rintro e z ⟨rfl, BZ⟩
                have M : One w g #[.string xk, .int .u64 (xu : Int), .int .u64 (xw : Int)] z := ⟨D.bg.next BZ, D.hg, below_step D.bl BZ⟩
                clear x0 x1 x2 y0 y1 y2 BZ K D
                by_cases hc : cc < 0
                · have c1 : ¬ 0 ≤ cc := by omega
                  have c2 : decide (0 ≤ cc) = false := decide_eq_false c1
                  have LN : Hid (∀ j, j < k + 1 → cmpI (nth l j) ⟨xk, xu, xw⟩ < 0) := by
                    intro j hj
                    by_cases e : j = k
                    · subst e; rw [← HY.out, ← HCC.out]; exact hc
                    · exact LS.out j (by omega)
                  have MN := Lib.hid M
                  clear M
                  go_wp2_with fail
                  go_roundg (gk - 1)
                  case measure => have := HQ.out; have := LT.out; omega
                  case rel =>
                    go_light
                    exact ⟨k + 1, by go_num, by have := HQ.out; have := LT.out; omega, LN, MN⟩
                · have c1 : 0 ≤ cc := by omega
                  have c2 : decide (0 ≤ cc) = true := decide_eq_true c1
                  go_wp2_with fail
                  refine (KF.out _).mono ?_
                  rintro e w8 ⟨rfl, B8⟩
                  have BE := Lib.hid (below_step M.bl B8)
                  clear M B8
                  go_wp2_with fail
                  go_ret
                  exact ⟨rfl, BE.out⟩
              · obtain rfl : k = n := by omega
                have k1 : ¬ (k : Int) < k := by omega
                have TP := Lib.hid (push_top RT.out MX.out (fun j hj => LS.out j (by rw [HN.out]; exact hj)))
                have M := MK.out
                clear lt hq LS MK MR
                obtain ⟨x0, x1, x2⟩ := M.bg.three
                go_wp2_with fail
                refine (KU.out _ M.bl).mono ?_
                rintro e W7 ⟨B, d, rfl, J, B7⟩
                rw [TP.out.1] at J ⊢
                replace M := M.next B7
                clear x0 x1 x2 B7 KU
                dsimp only at J ⊢
                have KO := Lib.hid (fun W (hb : Below W7.heap.size W7 W) => KQ.out B d W (pushL l ⟨xk, xu, xw⟩) ⟨J.1.next hb, J.2⟩ TP.out.2.1)
                have PO := TP.out.2.2
                rw [PO] at KO
                clear J PO
                go_wp2_with fail
                refine (KO.out _ (Below.refl _ _)).mono ?_
                rintro e W9 ⟨B9, d9, rfl, J9, B9h⟩
                dsimp only at J9 ⊢
                replace M := M.next B9h
                clear KO B9h
                have RL := Lib.hid (pop_len TP.out.2.1)
                have RR := Lib.hid (rightB_pop (rightB_push RT.out MX.out) (by rw [TP.out.2.1]; omega))
                rw [RL.out, ← HN.out]
                have KG := Lib.hid (fun W (hb : Below W9.heap.size W9 W) => KR.out B9 d9 W (popL (pushL l ⟨xk, xu, xw⟩)) ⟨J9.1.next hb, J9.2⟩ (by rw [RL.out, ← HN.out]; omega))
                rw [RR.out, RL.out, ← HN.out] at KG
                have D := M.two #[.string xk, .int .u64 (xu : Int), .int .u64 (xw : Int)] 25
                clear J9 KR KQ TP
                go_upto_region 15 with fail
                generalize hV : W9.alloc (.cells #[.string xk, .int .u64 (xu : Int), .int .u64 (xw : Int)] 25) = V at *
                try rw [hV]
                have BV : Hid (Below W9.heap.size W9 V) := by rw [← hV]; exact (Below.refl _ _).alloc (Nat.le_refl _) _
                clear hV
                obtain ⟨gy, hgy⟩ : ∃ gy, W9.heap.size = gy := ⟨_, rfl⟩
                rw [hgy] at D
                try rw [hgy]
                obtain ⟨x0, x1, x2⟩ := D.bg.three
                obtain ⟨y0, y1, y2⟩ := D.br.three
                clear M
                go_wp2_with fail
                refine (KG.out _ BV.out).mono ?_
                rintro e WA ⟨rfl, BA⟩
                have M := Lib.hid (below_step D.bl BA)
                clear KG BA D x0 x1 x2 y0 y1 y2
                go_wp2_with fail
                refine (KF.out _).mono ?_
                rintro e w8 ⟨rfl, B8⟩
                have BE := Lib.hid (below_step M.out B8)
                clear M B8
                go_wp2_with fail
                go_ret
                exact ⟨rfl, BE.out⟩
      · have hb : (cx != 0) = true := by simpa using hx
        have hb2 : (cx == 0) = false := by simpa using hx
        clear h hs hr hx P fx hcx
        go_enter Try.func6, Try.ntmps6
        go_wp2_with fail
        clear hg
        generalize w.alloc (.cells #[.string xk, .int .u64 (xu : Int), .int .u64 (xw : Int)] 25) = W0 at *
        refine (K0.out _ M.bl).mono ?_
        rintro e w1 ⟨rfl, B1⟩
        replace M := M.next B1
        clear B1
        go_wp2_with fail
        refine (K1.out _ M.bl).mono ?_
        rintro e w2 ⟨rfl, B2⟩
        replace M := M.next B2
        clear B2
        obtain ⟨x0, x1, x2⟩ := M.bg.three
        go_wp2_with fail
        refine (KX.out _).mono ?_
        rintro e w3 ⟨rfl, B3⟩
        replace M := M.next B3
        clear B3 x0 x1 x2
        go_wp2_with fail
        refine (KF.out _).mono ?_
        rintro e w8 ⟨rfl, B8⟩
        have BE := Lib.hid (below_step M.bl B8)
        clear M B8
        go_wp2_with fail
        go_ret
        exact ⟨rfl, BE.out⟩
    · have hr2 : rightB l = false := by simpa using hr
      rw [hr2] at K1
      clear h hs hr hr2 P fx
      go_enter Try.func6, Try.ntmps6
      go_wp2_with fail
      clear hg
      generalize w.alloc (.cells #[.string xk, .int .u64 (xu : Int), .int .u64 (xw : Int)] 25) = W0 at *
      refine (K0.out _ M.bl).mono ?_
      rintro e w1 ⟨rfl, B1⟩
      replace M := M.next B1
      clear B1
      go_wp2_with fail
      refine (K1.out _ M.bl).mono ?_
      rintro e w2 ⟨rfl, B2⟩
      replace M := M.next B2
      clear B2
      go_wp2_with fail
      refine (KF.out _).mono ?_
      rintro e w8 ⟨rfl, B8⟩
      have BE := Lib.hid (below_step M.bl B8)
      clear M B8
      go_wp2_with fail
      go_ret
      exact ⟨rfl, BE.out⟩
  · have hs2 : smallB l = false := by simpa using hs
    rw [hs2] at K0
    clear h hs hs2 P fx
    go_enter Try.func6, Try.ntmps6
    go_wp2_with fail
    clear hg
    generalize w.alloc (.cells #[.string xk, .int .u64 (xu : Int), .int .u64 (xw : Int)] 25) = W0 at *
    refine (K0.out _ M.bl).mono ?_
    rintro e w1 ⟨rfl, B1⟩
    replace M := M.next B1
    clear B1
    go_wp2_with fail
    refine (KF.out _).mono ?_
    rintro e w8 ⟨rfl, B8⟩
    have BE := Lib.hid (below_step M.bl B8)
    clear M B8
    go_wp2_with fail
    go_ret
    exact ⟨rfl, BE.out⟩
end Go.Proofs.Ytnkhgkpijfohkaa.heapStays
