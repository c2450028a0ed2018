/- The walk of the law HeapDown, over what the six calls answer. -/
import Derived.Test.YtnkhgkpijfohkaaJ09
namespace Go.Proofs.Ytnkhgkpijfohkaa.heapDown
open Go.RowKit
open Go.Proofs.Ytnkhgkpijfohkaa
set_option linter.unusedVariables false
set_option linter.unusedSimpArgs false
set_option maxHeartbeats 8000000
set_option maxRecDepth 100000
theorem small_len {l : List It} (h : smallB l = true) : l.length ≤ 60 := by
  unfold smallB at h
  rw [Bool.and_eq_true] at h
  exact of_decide_eq_true h.1
theorem walk (P : Prog11) (PC : CmpOk) (AW : ∀ w : World, Calls Try.prog 9 #[] w fun e w' => e = .returned (.bool true) ∧ Below w.heap.size w w') {A : Option Addr} {c : Nat} {l : List It} {w : World} (h : Lst w A c l) :
    Calls Try.prog 5 #[.slice A l.length c] w fun e w' => e = .returned (.bool true) ∧ Below w.heap.size w w' := by
  have KF := Lib.hid AW
  have K0 := Lib.hid (refSmall10_any h.1)
  by_cases hs : smallB l = true
  · have n60 : l.length ≤ 60 := small_len hs
    rw [hs] at K0
    have K1 : Hid (∀ W : World, Below w.heap.size w W → _) := fun W hb => refAll_any (h.1.next hb) (by omega)
    by_cases ha : l.all mayB = true
    · rw [ha] at K1
      have I := Lib.hid h.1
      have MA := Lib.hid (fun y (hy : y ∈ l) => List.all_eq_true.1 ha y hy)
      have KP := Lib.hid (fun (B : Option Addr) (d : Nat) (W : World) (t : List It) (J : Lst W B d t) (hl : t.length ≤ 60) (x : It) (fx : x.Fit) => P.push J (by omega) x fx)
      have KD := Lib.hid (fun (B : Option Addr) (d : Nat) (W : World) (t : List It) (J : Lst W B d t) (hl : t.length ≤ 60) => P.down J (by omega))
      have PC := Lib.hid PC
      obtain ⟨n, hn⟩ : ∃ n, n = l.length := ⟨_, rfl⟩
      rw [← hn] at K0 K1 I n60 ⊢
      have HN := Lib.hid hn
      clear h hs ha hn P AW
      go_enter Try.func5, Try.ntmps5
      go_wp2_with fail
      refine K0.out.mono ?_
      rintro e w1 ⟨rfl, B1⟩
      have B1 := Lib.hid B1
      go_wp2_with fail
      refine (K1.out _ B1.out).mono ?_
      rintro e w2 ⟨rfl, B2⟩
      have B2 := Lib.hid (below_step B1.out B2)
      clear K0 K1
      go_wp2_with fail
      go_loopg [3, 24] n (fun q s3 s24 wr => ∃ (i d m : Nat) (B : Option Addr) (hl : List It), s24 = .int .i64 (i : Int) ∧ s3 = .slice B m d ∧ i + q = n ∧ m = hl.length ∧ Hid (Lst wr B d hl) ∧ Hid (rightB hl = true ∧ hl.Perm (l.take i)) ∧ Hid (Below w.heap.size w wr))
      case atStart => exact ⟨0, 0, 0, none, [], rfl, rfl, by omega, rfl, ⟨Its.none_ _ _ _ rfl (by decide), fun _ => rfl⟩, ⟨rightB_nil, by simp⟩, B2⟩
      case round =>
        obtain ⟨i, d, m, B, hl, rfl, rfl, hq, hm, LB, RB, BL⟩ := hrel
        have HQ := Lib.hid hq
        have HM := Lib.hid hm
        by_cases lt : i < n
        · have i1 : (i : Int) < n := by omega
          have i0 : (0 : Int) ≤ i := by omega
          have il : i < l.length := by rw [← HN.out]; exact lt
          obtain ⟨ad, hj, rfl, a0, a1, a2, ft⟩ := (I.out.next BL.out).read i lt
          rw [← nth_eq il] at a0 a1 a2 ft
          have hlen : hl.length = i := by rw [RB.out.2.length_eq, List.length_take]; omega
          have mx : mayB (nth l i) = true := MA.out _ (nth_mem il)
          have E1 : Hid (pushA hl (nth l i) = (pushL hl (nth l i), 0)) := by
            unfold Hid pushA
            rw [RB.out.1, if_neg (by decide), if_neg (by rw [chk_may.2 mx]; decide)]
          have RN : Hid (rightB (pushL hl (nth l i)) = true ∧ (pushL hl (nth l i)).Perm (l.take (i + 1))) := by
            refine ⟨rightB_push RB.out.1 mx, ?_⟩
            rw [List.take_succ_eq_append_getElem il, ← nth_eq il]
            exact (pushL_perm _ _).trans (RB.out.2.append_right _)
          have K := Lib.hid (fun (W : World) (hb : Below wr.heap.size wr W) => KP.out B d W hl ⟨LB.out.1.next hb, LB.out.2⟩ (by omega) (nth l i) ft)
          rw [E1.out, ← HM.out] at K
          generalize nth l i = x at *
          have D := One.new wr #[.string x.k, .int .u64 (x.u : Int), .int .u64 (x.w : Int)] 25
          have LT := Lib.hid lt
          clear hj ft il hlen mx lt hq hm E1
          go_upto_region 7 with fail
          clear a0 a1 a2
          generalize hV : wr.alloc (.cells #[.string x.k, .int .u64 (x.u : Int), .int .u64 (x.w : Int)] 25) = V at *
          try rw [hV]
          clear hV
          obtain ⟨gy, hgy⟩ : ∃ gy, wr.heap.size = gy := ⟨_, rfl⟩
          have BV := Lib.hid D.bl
          have BLV := Lib.hid (below_step BL.out D.bl)
          rw [hgy] at D
          try rw [hgy]
          obtain ⟨x0, x1, x2⟩ := D.bg.three
          clear D hgy
          go_wp2_with fail
          refine (K.out _ BV.out).mono ?_
          rintro e W3 ⟨C, dd, rfl, J, B3⟩
          dsimp only at J ⊢
          have JN := Lib.hid J
          have B3h := Lib.hid (below_step BLV.out B3)
          clear K J B3 x0 x1 x2
          obtain ⟨mm, hmm⟩ : ∃ mm, mm = (pushL hl x).length := ⟨_, rfl⟩
          rw [← hmm]
          have HMM := Lib.hid hmm
          clear hmm
          go_wp2_with fail
          go_roundg (gk - 1)
          case measure => have := HQ.out; have := LT.out; omega
          case rel =>
            go_light
            exact ⟨i + 1, dd, mm, C, pushL hl x, by go_num, rfl, by have := HQ.out; have := LT.out; omega, HMM.out, JN, RN, B3h⟩
        · obtain rfl : i = n := by omega
          have i1 : ¬ (i : Int) < i := by omega
          have hp : hl.Perm l := by have := RB.out.2; rw [List.take_of_length_le (by rw [HN.out]; exact Nat.le_refl _)] at this; exact this
          have hlen : hl.length = i := by rw [hp.length_eq, HN.out]
          have K := Lib.hid (KD.out B d wr hl LB.out (by omega))
          rw [downA_right RB.out.1, downN_len, hlen, ← show m = i by omega] at K
          obtain ⟨dl, hdl⟩ : ∃ dl, dl = downN m hl := ⟨_, rfl⟩
          rw [← hdl] at K
          have DL : Hid (dl.length = i ∧ dl.Perm l ∧ dl.Pairwise fun a b => cmpI b a ≤ 0) := by
            rw [hdl, show m = hl.length from hm]
            exact ⟨by rw [downN_len]; exact hlen, (downN_perm _ _ rfl).trans hp, downN_desc _ _ rfl RB.out.1⟩
          have mi : m = i := by omega
          subst mi
          clear lt hq hm hlen hp hdl KD KP LB RB
          go_wp2_with fail
          refine K.out.mono ?_
          rintro e W4 ⟨C, dc, rfl, J, B4⟩
          have IDL := Lib.hid (show Its W4 C m dc dl by have := J.1; rw [DL.out.1] at this; exact this)
          have B4h := Lib.hid (below_step BL.out B4)
          clear K J B4
          have nn : ((m : Int) != (m : Int)) = false := by simp
          have I0 : Hid (∃ left, left.length = m ∧ Its W4 A m c left ∧ left.Perm (dl.drop 0)) := ⟨l, HN.out.symm, I.out.next B4h.out, by rw [List.drop_zero]; exact DL.out.2.1.symm⟩
          go_wp2_with fail
          go_loopg [9, 48] m (fun q s9 s48 wr => ∃ (k r c2 : Nat) (D : Option Addr), s48 = .int .i64 (k : Int) ∧ s9 = .slice D r c2 ∧ k + q = m ∧ r + k = m ∧ Hid (∃ left, left.length = r ∧ Its wr D r c2 left ∧ left.Perm (dl.drop k)) ∧ Hid (Below w.heap.size w wr) ∧ Hid (Below W4.heap.size W4 wr))
          case atStart => exact ⟨0, m, c, A, rfl, rfl, by omega, by omega, I0, B4h, Below.refl _ _⟩
          case round =>
            obtain ⟨k, r, c2, D, rfl, rfl, hq, hrk, LF, BL2, BW⟩ := hrel
            have HQ := Lib.hid hq
            clear I0
            by_cases lt : k < m
            · have k1 : (k : Int) < m := by omega
              have k0 : (0 : Int) ≤ k := by omega
              have kl : k < dl.length := by rw [DL.out.1]; exact lt
              obtain ⟨ad, hj, rfl, a0, a1, a2, ft⟩ := (IDL.out.next BW.out).read k lt
              rw [← nth_eq kl] at a0 a1 a2 ft
              obtain ⟨left, ll, IL, pl⟩ := LF.out
              have dk : dl.drop k = nth dl k :: dl.drop (k + 1) := by rw [nth_eq kl]; exact List.drop_eq_getElem_cons kl
              rw [dk] at pl
              have xin : nth dl k ∈ left := pl.mem_iff.2 (.head _)
              have KW := Lib.hid (fun (W : World) (hb : Below wr.heap.size wr W) => without11_any (x := nth dl k) (IL.next hb) (by omega) ft)
              have WL : Hid ((without left (nth dl k)).length + 1 = r ∧ (without left (nth dl k)).Perm (dl.drop (k + 1))) := by
                have a := without_len xin
                have b := List.length_pos_of_mem xin
                exact ⟨by omega, without_rest pl⟩
              have DS : Hid (∀ k', k = k' + 1 → cmpI (nth dl k) (nth dl k') ≤ 0) := by
                intro k' e
                have := List.pairwise_iff_getElem.1 DL.out.2.2 k' k (by omega) kl (by omega)
                rw [nth_eq kl, nth_eq (show k' < dl.length by omega)]
                exact this
              have FT := Lib.hid ft
              have KLL := Lib.hid kl
              obtain ⟨x, hx⟩ : ∃ x, x = nth dl k := ⟨_, rfl⟩
              rw [← hx] at a0 a1 a2 KW WL DS FT
              have HX := Lib.hid hx
              have E := One.new wr #[.string x.k, .int .u64 (x.u : Int), .int .u64 (x.w : Int)] 25
              have LT := Lib.hid lt
              have HRK := Lib.hid hrk
              clear hj ft kl ll IL pl dk xin hx lt hq hrk LF
              go_upto_region 19 with fail
              clear a0 a1 a2
              generalize hV : wr.alloc (.cells #[.string x.k, .int .u64 (x.u : Int), .int .u64 (x.w : Int)] 25) = V at *
              try rw [hV]
              clear hV
              obtain ⟨gy, hgy⟩ : ∃ gy, wr.heap.size = gy := ⟨_, rfl⟩
              have BV := Lib.hid E.bl
              rw [hgy] at E
              try rw [hgy]
              have EB := Lib.hid E.bg
              clear E hgy
              go_cut [64] (fun sb wx => sb = .bool false ∧ Hid (Below V.heap.size V wx))
              case first =>
                by_cases e : k = 0
                · subst e
                  have BD := Lib.hid (Below.refl V.heap.size V).drew
                  go_region
                  go_wp2_with fail
                  go_meet
                  exact ⟨rfl, BD⟩
                · obtain ⟨k', hk'⟩ : ∃ k', k = k' + 1 := ⟨k - 1, by omega⟩
                  have p1 : (0 : Int) < k := by omega
                  have p1n : 0 < k := by omega
                  have p2 : IntKind.i64.wrap ((k : Int) - 1) = (k' : Int) := by rw [IntKind.wrap_i64]; omega
                  have p3 : (0 : Int) ≤ k' := by omega
                  have p4 : (k' : Int) < m := by omega
                  have kl' : k' < dl.length := by have := KLL.out; omega
                  obtain ⟨ad', hj', e6, z0, z1, z2, fz⟩ := (IDL.out.next (below_step BW.out BV.out)).read k' (by omega)
                  obtain rfl := Option.some.inj e6
                  rw [← nth_eq kl'] at z0 z1 z2 fz
                  obtain ⟨y0, y1, y2⟩ := EB.out.three
                  have K := Lib.hid (PC.out (nth dl k') x fz FT.out)
                  have hc : ¬ cmpI (nth dl k') x < 0 := by have := cmpI_anti x (nth dl k'); have := DS.out k' hk'; omega
                  generalize cmpI (nth dl k') x = cc at *
                  generalize nth dl k' = z at *
                  have hc1 : decide (cc < 0) = false := decide_eq_false hc
                  clear hj' kl' fz hk' e
                  go_region_held3 (fun w' => w'.cell? (ad.add (k' * 3)) = some (.string z.k) ∧ w'.cell? ⟨(ad.add (k' * 3)).block, (ad.add (k' * 3)).off + 1, none⟩ = some (.int .u64 (z.u : Int)) ∧ w'.cell? ⟨(ad.add (k' * 3)).block, (ad.add (k' * 3)).off + 2, none⟩ = some (.int .u64 (z.w : Int)) ∧
                      w'.cell? ⟨gy, 0, none⟩ = some (.string x.k) ∧ w'.cell? ⟨gy, 1, none⟩ = some (.int .u64 (x.u : Int)) ∧ w'.cell? ⟨gy, 2, none⟩ = some (.int .u64 (x.w : Int)))
                    ((refine ⟨?_, ?_, ?_, ?_, ?_, ?_⟩ <;> (repeat (first | with_reducible exact z0 | with_reducible exact z1 | with_reducible exact z2 | with_reducible exact y0 | with_reducible exact y1 | with_reducible exact y2 | with_reducible refine keep_drew ?_ | with_reducible refine keep_cell (by assumption) ?_))))
                    (first | (go_at_call 23; (with_reducible refine (K.out _).mono ?_); rintro e Zt ⟨rfl, BZ⟩))
                  have BD := Lib.hid (below_step (Below.refl V.heap.size V).drew BZ)
                  clear z0 z1 z2 y0 y1 y2 K BZ
                  go_wp2_with fail
                  go_meet
                  exact ⟨by simp [hc], BD⟩
              case rest =>
                obtain ⟨rfl, BD⟩ := hcut
                generalize wc = V2 at *
                have BVV := Lib.hid (BV.out.trans (BD.out.mono BV.out.size))
                obtain ⟨y0, y1, y2⟩ := (EB.out.next BD.out).three
                go_wp2_with fail
                refine (KW.out _ BVV.out).mono ?_
                rintro e W5 ⟨v, rfl, R, B5⟩
                obtain ⟨D2, c3, rfl, I5, -, -⟩ := R.slice
                have B5h := Lib.hid (below_step BVV.out B5)
                have BNw := Lib.hid (BL2.out.trans (B5h.out.mono BL2.out.size))
                have BN4 := Lib.hid (BW.out.trans (B5h.out.mono BW.out.size))
                obtain ⟨r', hr'⟩ : ∃ r', r' = (without left x).length := ⟨_, rfl⟩
                rw [← hr'] at I5 ⊢
                have rr : r' + 1 = r := by rw [hr']; exact WL.out.1
                have LN : Hid (∃ left, left.length = r' ∧ Its W5 D2 r' c3 left ∧ left.Perm (dl.drop (k + 1))) := ⟨without left x, hr'.symm, I5, WL.out.2⟩
                have q1 : IntKind.i64.wrap ((r : Int) - 1) = (r' : Int) := by rw [IntKind.wrap_i64]; have := HRK.out; omega
                have q2 : ((r' : Int) != (r' : Int)) = false := by simp
                have RR := Lib.hid rr
                clear R I5 B5 hr' rr y0 y1 y2
                go_wp2_with fail
                go_roundg (gk - 1)
                case measure => have := HQ.out; have := LT.out; omega
                case rel =>
                  go_light
                  exact ⟨k + 1, r', c3, D2, by go_num, rfl, by have := HQ.out; have := LT.out; omega, by have := HRK.out; have := RR.out; omega, LN, BNw, BN4⟩
            · obtain rfl : k = m := by omega
              have k1 : ¬ (k : Int) < k := by omega
              clear lt hq
              go_wp2_with fail
              refine (KF.out _).mono ?_
              rintro e w8 ⟨rfl, B8⟩
              go_wp2_with fail
              go_ret
              exact ⟨rfl, below_step BL2.out B8⟩
    · have ha2 : l.all mayB = false := by simpa using ha
      rw [ha2] at K1
      clear h hs ha ha2 P
      go_enter Try.func5, Try.ntmps5
      go_wp2_with fail
      refine K0.out.mono ?_
      rintro e w1 ⟨rfl, B1⟩
      have B1 := Lib.hid B1
      go_wp2_with fail
      refine (K1.out _ B1.out).mono ?_
      rintro e w2 ⟨rfl, B2⟩
      have B2 := Lib.hid (below_step B1.out B2)
      go_wp2_with fail
      refine (KF.out _).mono ?_
      rintro e w8 ⟨rfl, B8⟩
      go_wp2_with fail
      go_ret
      exact ⟨rfl, below_step B2.out B8⟩
  · have hs2 : smallB l = false := by simpa using hs
    rw [hs2] at K0
    clear h hs hs2 P
    go_enter Try.func5, Try.ntmps5
    go_wp2_with fail
    refine K0.out.mono ?_
    rintro e w1 ⟨rfl, B1⟩
    have B1 := Lib.hid B1
    go_wp2_with fail
    refine (KF.out _).mono ?_
    rintro e w8 ⟨rfl, B8⟩
    go_wp2_with fail
    go_ret
    exact ⟨rfl, below_step B1.out B8⟩
end Go.Proofs.Ytnkhgkpijfohkaa.heapDown
