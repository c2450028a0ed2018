/- slices.symMergeCmpFunc: two stretches in order are merged, the equal ones as they came. slices.stableCmpFunc, SortStableFunc: items in order, the equal ones as they came. A block of two cells that is written anew. rank's Cmp, Check, Rank. -/
import Derived.Test.YthollkngfibgaaaDoorJ11
import Derived.Test.YthollkngfibgaaaDoorJ06
import Derived.Test.YthollkngfibgaaaDoorJ10
import Derived.Test.YthollkngfibgaaaDoorShelf
namespace Go.Proofs.YthollkngfibgaaaDoor
open Go.RowKit
set_option linter.unusedVariables false
set_option linter.unusedSimpArgs false
set_option maxHeartbeats 4000000
set_option maxRecDepth 100000
/-- Two stretches, of together at most L items, are merged. -/
def SymOk (ad : Addr) (N c L : Nat) : Prop := ∀ (P U V Q : List It) (a m b : Nat) (W : World), Row3 W ad (P ++ (U ++ (V ++ Q))) → Sorted U → Sorted V → May U → May V → 0 < U.length → 0 < V.length → U.length + V.length ≤ L → P.length = a → P.length + U.length = m → P.length + U.length + V.length = b → P.length + U.length + V.length + Q.length = N →
  Calls Tryd.prog 75 #[.slice (some ad) N c, .int .i64 (a : Int), .int .i64 (m : Int), .int .i64 (b : Int), .func (.func 13) #[] #[]] W fun e w' => e = .returned (.tuple #[]) ∧ ∃ S, IsSort (U ++ V) S ∧ Tr ad (P ++ (S ++ Q)) W w'
/-- How far the search is. -/
def Se3 (cur : List It) (p s0 r0 st r : Nat) : Prop := (st = s0 ∨ Low cur p (st - 1)) ∧ (r = r0 ∨ ¬ Low cur p r)
theorem sym_gen {ad : Addr} {P U V Q : List It} {N c L a m b : Nat} {w : World} (KC : CmpOk) (IH : SymOk ad N c L) (h : Row3 w ad (P ++ (U ++ (V ++ Q)))) (su : Sorted U) (sv : Sorted V) (mu : May U) (mv : May V) (u2 : 2 ≤ U.length) (v2 : 2 ≤ V.length) (hL : U.length + V.length ≤ L + 1) (ha : P.length = a) (hm : P.length + U.length = m) (hb : P.length + U.length + V.length = b) (hN : P.length + U.length + V.length + Q.length = N) (hs : N ≤ 100000) :
    Calls Tryd.prog 75 #[.slice (some ad) N c, .int .i64 (a : Int), .int .i64 (m : Int), .int .i64 (b : Int), .func (.func 13) #[] #[]] w fun e w' => e = .returned (.tuple #[]) ∧ ∃ S, IsSort (U ++ V) S ∧ Tr ad (P ++ (S ++ Q)) w w' := by
  have eg := enters_of Tryd.func13 (by kernel_rfl) rfl
  obtain ⟨cur, hcur⟩ : ∃ cur, cur = P ++ (U ++ (V ++ Q)) := ⟨_, rfl⟩
  have hl : cur.length = N := by rw [hcur]; simp only [List.length_append]; omega
  obtain ⟨mid, hmid⟩ : ∃ mid, mid = (a + b) / 2 := ⟨_, rfl⟩
  obtain ⟨n, hn⟩ : ∃ n, n = mid + m := ⟨_, rfl⟩
  obtain ⟨p, hp⟩ : ∃ p, p = n - 1 := ⟨_, rfl⟩
  obtain ⟨s0, hs0⟩ : ∃ s0, s0 = if m > mid then n - b else a := ⟨_, rfl⟩
  obtain ⟨r0, hr0⟩ : ∃ r0, r0 = if m > mid then mid else m := ⟨_, rfl⟩
  have BD : a ≤ s0 ∧ s0 ≤ r0 ∧ r0 ≤ mid ∧ r0 ≤ m ∧ mid ≤ s0 + (b - m) ∧ a < mid ∧ mid < b ∧ n < b + b ∧ a ≤ m ∧ m ≤ b ∧ b ≤ N := by
    rw [hs0, hr0]; split <;> omega
  obtain ⟨asr, sr, rm, rm', ms, amid, midb, nbb, am, mb, bN⟩ := BD
  -- what the search leaves behind
  have SE : Hid (∀ st, s0 ≤ st → st ≤ r0 → Se3 cur p s0 r0 st st → (∀ x ∈ U.take (st - a), ∀ y ∈ V.drop (mid - st), cmpI x y ≤ 0) ∧ ∀ x ∈ U.drop (st - a), ∀ y ∈ V.take (mid - st), cmpI y x < 0) := by
    intro st h0 h1 hse
    rw [← ha]
    exact search_end (Q := Q) su sv mu mv (n := n) (p := p) (s0 := s0) (r0 := r0) (by rw [hmid, ← ha, ← hb]) (by rw [hn, ← hm]) hp (by rw [hs0, ← hm, ← hb, ← ha]) (by rw [hr0, ← hm]) h0 h1 (by rw [← hcur]; exact hse.1) (by rw [← hcur]; exact hse.2)
  have T0 := Lib.hid (Tr.refl h)
  rw [← hcur] at T0
  have HL := Lib.hid hl; have KC := Lib.hid KC; have SU := Lib.hid su; have SV := Lib.hid sv; have MU := Lib.hid mu; have MV := Lib.hid mv; have HC := Lib.hid hcur; have IH := Lib.hid IH; have HLL := Lib.hid hL
  have HP := Lib.hid ha; have HU := Lib.hid (show U.length = m - a by omega); have HV := Lib.hid (show V.length = b - m by omega); have HQ := Lib.hid (show Q.length = N - b by omega)
  have e0 : ¬ ((m : Int) - a) = 1 := by omega
  have e0' : (((m : Int) - a) == 1) = false := by simpa using e0
  have e1 : ¬ ((b : Int) - m) = 1 := by omega
  have e1' : (((b : Int) - m) == 1) = false := by simpa using e1
  have f1 : ((a : Int) + b) / 2 = (mid : Int) := by omega
  have f2 : IntKind.i64.wrap ((mid : Int) + m) = (n : Int) := by rw [IntKind.wrap_i64]; omega
  have f3 : IntKind.i64.wrap ((n : Int) - 1) = (p : Int) := by rw [IntKind.wrap_i64]; omega
  have np : n = p + 1 := by omega
  have NM := Lib.hid hn
  have NP := Lib.hid np
  have HS0 := Lib.hid hs0; have HR0 := Lib.hid hr0
  have pb : p < b + m := by omega
  clear h su sv mu mv u2 v2 hL ha hm hb hN hl hcur hmid hn hp hs0 hr0 np
  go_enter Tryd.func75, Tryd.ntmps75
  go_upto_if 140 with fail
  go_cut [20, 21] (fun s20 s21 wx => s20 = .int .i64 (s0 : Int) ∧ s21 = .int .i64 (r0 : Int) ∧ wx = w)
  case first =>
    by_cases q : m > mid
    · have q1 : (mid : Int) < m := by omega
      have q2 : IntKind.i64.wrap ((n : Int) - b) = (s0 : Int) := by have := HS0.out; have := NM.out; rw [if_pos q] at *; rw [IntKind.wrap_i64]; omega
      have q3 : r0 = mid := by have := HR0.out; rw [if_pos q] at this; exact this
      subst q3
      go_wp2_with fail
      go_meet
      exact ⟨rfl, rfl, rfl⟩
    · have q1 : ¬ (mid : Int) < m := by omega
      have q2 : s0 = a := by have := HS0.out; rw [if_neg q] at this; exact this
      have q3 : r0 = m := by have := HR0.out; rw [if_neg q] at this; exact this
      subst q2 q3
      go_wp2_with fail
      go_meet
      exact ⟨rfl, rfl, rfl⟩
  case rest =>
    obtain ⟨rfl, rfl, hw⟩ := hcut
    have hw := hw.symm
    subst hw
    clear e0 e0' e1 e1' f1 f2
    go_wp2_with fail
    go_loopg [20, 21] (r0 - s0) (fun q s20 s21 wr => ∃ st r : Nat, s20 = .int .i64 (st : Int) ∧ s21 = .int .i64 (r : Int) ∧ s0 ≤ st ∧ st ≤ r ∧ r ≤ r0 ∧ r - st ≤ q ∧ Hid (Se3 cur p s0 r0 st r) ∧ Hid (Tr ad cur w wr))
    case atStart => exact ⟨s0, r0, rfl, rfl, Nat.le_refl _, sr, Nat.le_refl _, Nat.le_refl _, ⟨.inl rfl, .inl rfl⟩, T0⟩
    case round =>
      obtain ⟨st, r, rfl, rfl, sst, str, rr, hq, S, T⟩ := hrel
      clear T0
      have HQQ := Lib.hid hq
      clear hq
      by_cases lt : st < r
      · have lt1 : (st : Int) < r := by omega
        have n2 : n = mid + m := NM.out
        have np : n = p + 1 := NP.out
        obtain ⟨c1, hc1⟩ : ∃ c1, c1 = (st + r) / 2 := ⟨_, rfl⟩
        have g1 : ((st : Int) + r) / 2 = (c1 : Int) := by omega
        have sc : st ≤ c1 := by omega
        have cr : c1 < r := by omega
        obtain ⟨pc, hpc⟩ : ∃ pc, pc = p - c1 := ⟨_, rfl⟩
        have g2 : IntKind.i64.wrap ((p : Int) - c1) = (pc : Int) := by rw [IntKind.wrap_i64]; omega
        have p1 : (0 : Int) ≤ (c1 : Int) := by omega
        have p2 : (c1 : Int) < N := by omega
        have p3 : (0 : Int) ≤ (pc : Int) := by omega
        have pcN : pc < N := by omega
        have p4 : (pc : Int) < N := by omega
        have CL := Lib.hid (show c1 < cur.length by have := HL.out; omega)
        have PL := Lib.hid (show pc < cur.length by have := HL.out; omega)
        obtain ⟨x0, x1, x2⟩ := T.out.row.cell PL.out
        obtain ⟨y0, y1, y2⟩ := T.out.row.cell CL.out
        have fv := T.out.row.ft PL.out
        have fx := T.out.row.ft CL.out
        obtain ⟨v, hv⟩ : ∃ v, v = nth cur pc := ⟨_, rfl⟩
        obtain ⟨x, hx⟩ : ∃ x, x = nth cur c1 := ⟨_, rfl⟩
        rw [← hv] at x0 x1 x2 fv
        rw [← hx] at y0 y1 y2 fx
        have K := Lib.hid (KC.out v x fv fx)
        obtain ⟨cc, hcc⟩ : ∃ cc, cc = cmpI v x := ⟨_, rfl⟩
        rw [← hcc] at K
        have LOW : Hid (Low cur p c1 ↔ 0 ≤ cc) := by unfold Hid Low; rw [← hpc, ← hv, ← hx, ← hcc]; omega
        clear hc1 hpc hv hx hcc fv fx lt
        clear n2 np asr sr rm rm' ms amid midb nbb am mb bN pb
        go_wp2_with fail
        go_region_held3 (fun w' => w'.cell? (ad.add (pc * 3)) = some (.string v.k) ∧ w'.cell? ⟨(ad.add (pc * 3)).block, (ad.add (pc * 3)).off + 1, none⟩ = some (.int .u64 (v.u : Int)) ∧ w'.cell? ⟨(ad.add (pc * 3)).block, (ad.add (pc * 3)).off + 2, none⟩ = some (.int .u64 (v.w : Int)) ∧ w'.cell? (ad.add (c1 * 3)) = some (.string x.k) ∧ w'.cell? ⟨(ad.add (c1 * 3)).block, (ad.add (c1 * 3)).off + 1, none⟩ = some (.int .u64 (x.u : Int)) ∧ w'.cell? ⟨(ad.add (c1 * 3)).block, (ad.add (c1 * 3)).off + 2, none⟩ = some (.int .u64 (x.w : Int)))
          ((refine ⟨?_, ?_, ?_, ?_, ?_, ?_⟩ <;> (repeat (first | with_reducible exact x0 | with_reducible exact x1 | with_reducible exact x2 | with_reducible exact y0 | with_reducible exact y1 | with_reducible exact y2 | with_reducible refine keep_drew ?_ | with_reducible refine keep_cell (by assumption) ?_))))
          (first | (go_at_call 13; (with_reducible refine (K.out _).mono ?_); rintro e Zt ⟨rfl, BZ⟩))
        have TZ := Lib.hid (T.out.drew.next BZ)
        clear x0 x1 x2 y0 y1 y2 T BZ K
        generalize hbb : decide (cc < 0) = bb
        cases bb
        · have hc : ¬ cc < 0 := of_decide_eq_false hbb
          have S2 : Hid (Se3 cur p s0 r0 (c1 + 1) r) := ⟨.inr (LOW.out.2 (by omega)), S.out.2⟩
          have w2 : IntKind.i64.wrap ((c1 : Int) + 1) = ((c1 + 1 : Nat) : Int) := by rw [IntKind.wrap_i64]; omega
          clear hc hbb
          go_wp2_with fail
          go_roundg (gk - 1)
          case measure => have := HQQ.out; omega
          case rel =>
            go_light
            exact ⟨c1 + 1, r, by go_num, rfl, by omega, by omega, rr, by have := HQQ.out; omega, S2, TZ⟩
        · have hc : cc < 0 := of_decide_eq_true hbb
          have S2 : Hid (Se3 cur p s0 r0 st c1) := ⟨S.out.1, .inr (fun h => by have := LOW.out.1 h; omega)⟩
          clear hc hbb
          go_wp2_with fail
          go_roundg (gk - 1)
          case measure => have := HQQ.out; omega
          case rel =>
            go_light
            exact ⟨st, c1, rfl, rfl, sst, sc, by omega, by have := HQQ.out; omega, S2, TZ⟩
      · obtain rfl : st = r := by omega
        have lt1 : ¬ (st : Int) < st := by omega
        obtain ⟨c1, c2⟩ := SE.out st sst rr S.out
        obtain ⟨en, hen⟩ : ∃ en, en = m + (mid - st) := ⟨_, rfl⟩
        have n2 : n = mid + m := NM.out
        have we : IntKind.i64.wrap ((n : Int) - st) = (en : Int) := by rw [IntKind.wrap_i64]; omega
        obtain ⟨U1, U2, V1, V2, hU, hV, l1, l2, l3, l4, d1, d2⟩ : ∃ U1 U2 V1 V2, U = U1 ++ U2 ∧ V = V1 ++ V2 ∧ U1.length = st - a ∧ U2.length = m - st ∧ V1.length = mid - st ∧ V2.length = b - en ∧ (∀ x ∈ U1, ∀ y ∈ V2, cmpI x y ≤ 0) ∧ ∀ x ∈ U2, ∀ y ∈ V1, cmpI y x < 0 := by
          have hu := HU.out
          have hv := HV.out
          refine ⟨_, _, _, _, (List.take_append_drop (st - a) U).symm, (List.take_append_drop (mid - st) V).symm, ?_, ?_, ?_, ?_, c1, c2⟩
          · rw [List.length_take]; omega
          · rw [List.length_drop]; omega
          · rw [List.length_take]; omega
          · rw [List.length_drop]; omega
        subst hU hV
        have L1 := Lib.hid l1; have L2 := Lib.hid l2; have L3 := Lib.hid l3; have L4 := Lib.hid l4; have D1 := Lib.hid d1; have D2 := Lib.hid d2
        have ast : a ≤ st := by omega
        have stm : st ≤ m := by omega
        have stmid : st ≤ mid := by omega
        have enb : en ≤ b := by omega
        have HEN := Lib.hid hen
        have QL := Lib.hid (show Q.length = N - b from HQ.out)
        have LT := Lib.hid (show (U1 ++ U2).length + (V1 ++ V2).length ≤ L + 1 from HLL.out)
        have T1 : Hid (Tr ad (P ++ ((U1 ++ U2) ++ ((V1 ++ V2) ++ Q))) w wr) := by have := T.out; rw [HC.out] at this; exact this
        clear S SE str lt c1 c2 l1 l2 l3 l4 d1 d2 hen n2 T HC HL HU HV HS0 HR0 sst rr asr sr rm rm' ms f3 pb HQQ HLL hw
        go_upto_region 39 with fail
        obtain ⟨b1, hb1⟩ : ∃ q, q = decide (st < m ∧ m < en) := ⟨_, rfl⟩
        go_cut [185] (fun sb wx => sb = .bool b1 ∧ wx = wr)
        case first =>
          as_aux_lemma =>
            by_cases q1 : st < m
            · have q1' : (st : Int) < m := by omega
              by_cases q2 : m < en
              · have q2' : (m : Int) < en := by omega
                have e : b1 = true := by rw [hb1]; exact decide_eq_true ⟨q1, q2⟩
                clear hb1 q1 q2
                subst e
                go_wp2_with fail
                go_meet
                exact ⟨rfl, rfl⟩
              · have q2' : ¬ (m : Int) < en := by omega
                have e : b1 = false := by rw [hb1]; exact decide_eq_false (fun h => q2 h.2)
                clear hb1 q1 q2
                subst e
                go_wp2_with fail
                go_meet
                exact ⟨rfl, rfl⟩
            · have q1' : ¬ (st : Int) < m := by omega
              have e : b1 = false := by rw [hb1]; exact decide_eq_false (fun h => q1 h.1)
              clear hb1 q1
              subst e
              go_wp2_with fail
              go_meet
              exact ⟨rfl, rfl⟩
        case rest =>
          obtain ⟨rfl, hw2⟩ := hcut
          have hw2 := hw2.symm
          subst hw2
          have HB := Lib.hid hb1
          clear hb1
          go_upto_if 185 with fail
          go_cut [24] (fun s24 wx => s24 = .int .i64 (en : Int) ∧ Hid (Tr ad (P ++ (U1 ++ (V1 ++ (U2 ++ (V2 ++ Q))))) w wx))
          case first =>
            as_aux_lemma =>
              cases b1
              · have TE : Hid (Tr ad (P ++ (U1 ++ (V1 ++ (U2 ++ (V2 ++ Q))))) w wr) := by
                  unfold Hid
                  have q := T1.out
                  have nb := of_decide_eq_false HB.out.symm
                  have e : U2 = [] ∨ V1 = [] := by
                    have := L2.out; have := L3.out; have := HEN.out
                    by_cases h : st < m
                    · exact .inr (List.eq_nil_of_length_eq_zero (by omega))
                    · exact .inl (List.eq_nil_of_length_eq_zero (by omega))
                  rcases e with e | e
                  · subst e; simpa using q
                  · subst e; simpa using q
                go_wp2_with fail
                go_meet
                exact ⟨rfl, TE⟩
              · have b1 := of_decide_eq_true HB.out.symm
                have K := rotate_any (c := c) (X := P ++ U1) (U := U2) (V := V1) (Z := V2 ++ Q) (N := N) (a := st) (m := m) (b := en) (.func (.func 13) #[] #[]) (T1.out.row.nof _ (by simp only [List.append_assoc])) (by rw [List.length_append]; have := HP.out; have := L1.out; have := L2.out; have := L3.out; have := L4.out; have := HEN.out; have := QL.out; omega) (by rw [List.length_append]; have := HP.out; have := L1.out; have := L2.out; have := L3.out; have := L4.out; have := HEN.out; have := QL.out; omega) (by rw [List.length_append]; have := HP.out; have := L1.out; have := L2.out; have := L3.out; have := L4.out; have := HEN.out; have := QL.out; omega) (by have := HP.out; have := L1.out; have := L2.out; have := L3.out; have := L4.out; have := HEN.out; have := QL.out; omega) (by have := HP.out; have := L1.out; have := L2.out; have := L3.out; have := L4.out; have := HEN.out; have := QL.out; omega) (by rw [List.length_append, List.length_append]; have := HP.out; have := L1.out; have := L2.out; have := L3.out; have := L4.out; have := HEN.out; have := QL.out; omega) hs
                clear b1
                go_wp2_with fail
                refine K.mono ?_
                rintro e w1 ⟨rfl, TR⟩
                have TE := Lib.hid (T1.out.trans TR)
                rw [show P ++ U1 ++ (V1 ++ (U2 ++ (V2 ++ Q))) = P ++ (U1 ++ (V1 ++ (U2 ++ (V2 ++ Q)))) by simp only [List.append_assoc]] at TE
                clear K TR
                go_wp2_with fail
                go_meet
                exact ⟨rfl, TE⟩
          case rest =>
            obtain ⟨rfl, T2⟩ := hcut
            clear T1 HB
            generalize wc = W2 at *
            go_upto_region 41 with fail
            obtain ⟨b2, hb2⟩ : ∃ q, q = decide (a < st ∧ st < mid) := ⟨_, rfl⟩
            go_cut [199] (fun sb wx => sb = .bool b2 ∧ wx = W2)
            case first =>
              as_aux_lemma =>
                by_cases q1 : a < st
                · have q1' : (a : Int) < st := by omega
                  by_cases q2 : st < mid
                  · have q2' : (st : Int) < mid := by omega
                    have e : b2 = true := by rw [hb2]; exact decide_eq_true ⟨q1, q2⟩
                    clear hb2 q1 q2
                    subst e
                    go_wp2_with fail
                    go_meet
                    exact ⟨rfl, rfl⟩
                  · have q2' : ¬ (st : Int) < mid := by omega
                    have e : b2 = false := by rw [hb2]; exact decide_eq_false (fun h => q2 h.2)
                    clear hb2 q1 q2
                    subst e
                    go_wp2_with fail
                    go_meet
                    exact ⟨rfl, rfl⟩
                · have q1' : ¬ (a : Int) < st := by omega
                  have e : b2 = false := by rw [hb2]; exact decide_eq_false (fun h => q1 h.1)
                  clear hb2 q1
                  subst e
                  go_wp2_with fail
                  go_meet
                  exact ⟨rfl, rfl⟩
            case rest =>
              obtain ⟨rfl, hw2⟩ := hcut
              have hw2 := hw2.symm
              subst hw2
              have HB := Lib.hid hb2
              clear hb2
              go_upto_if 199 with fail
              go_cut [24] (fun s24 wx => s24 = .int .i64 (en : Int) ∧ Hid (∃ S1, IsSort (U1 ++ V1) S1 ∧ Tr ad (P ++ (S1 ++ (U2 ++ (V2 ++ Q)))) w wx))
              case first =>
                as_aux_lemma =>
                  cases b2
                  · have TE : Hid (∃ S1, IsSort (U1 ++ V1) S1 ∧ Tr ad (P ++ (S1 ++ (U2 ++ (V2 ++ Q)))) w W2) := by
                      refine ⟨U1 ++ V1, isSort_of_sorted ?_, by have q := T2.out; rw [List.append_assoc]; exact q⟩
                      have nb := of_decide_eq_false HB.out.symm
                      have e : U1 = [] ∨ V1 = [] := by
                        have := L1.out; have := L3.out
                        by_cases h : a < st
                        · exact .inr (List.eq_nil_of_length_eq_zero (by omega))
                        · exact .inl (List.eq_nil_of_length_eq_zero (by omega))
                      rcases e with e | e
                      · subst e; exact SV.out.left
                      · subst e; rw [List.append_nil]; exact SU.out.left
                    go_wp2_with fail
                    go_meet
                    exact ⟨rfl, TE⟩
                  · have b2 := of_decide_eq_true HB.out.symm
                    have K := IH.out P U1 V1 (U2 ++ (V2 ++ Q)) a st mid W2 T2.out.row SU.out.left SV.out.left MU.out.left MV.out.left (by have := HP.out; have := L1.out; have := L2.out; have := L3.out; have := L4.out; have := HEN.out; have := QL.out; omega) (by have := HP.out; have := L1.out; have := L2.out; have := L3.out; have := L4.out; have := HEN.out; have := QL.out; omega) (by have h0 := LT.out; rw [List.length_append, List.length_append] at h0; have := HP.out; have := L1.out; have := L2.out; have := L3.out; have := L4.out; have := HEN.out; have := QL.out; omega) HP.out (by have := HP.out; have := L1.out; have := L2.out; have := L3.out; have := L4.out; have := HEN.out; have := QL.out; omega) (by have := HP.out; have := L1.out; have := L2.out; have := L3.out; have := L4.out; have := HEN.out; have := QL.out; omega) (by rw [List.length_append, List.length_append]; have := HP.out; have := L1.out; have := L2.out; have := L3.out; have := L4.out; have := HEN.out; have := QL.out; omega)
                    clear b2
                    go_wp2_with fail
                    refine K.mono ?_
                    rintro e w1 ⟨rfl, S1, i1, TR⟩
                    have TE : Hid (∃ S1, IsSort (U1 ++ V1) S1 ∧ Tr ad (P ++ (S1 ++ (U2 ++ (V2 ++ Q)))) w w1) := ⟨S1, i1, T2.out.trans TR⟩
                    clear K TR
                    go_wp2_with fail
                    go_meet
                    exact ⟨rfl, TE⟩
              case rest =>
                obtain ⟨rfl, T3⟩ := hcut
                clear T2 HB
                generalize wc = W3 at *
                as_aux_lemma =>
                  go_upto_region 43 with fail
                  obtain ⟨b3, hb3⟩ : ∃ q, q = decide (mid < en ∧ en < b) := ⟨_, rfl⟩
                  go_cut [213] (fun sb wx => sb = .bool b3 ∧ wx = W3)
                  case first =>
                    as_aux_lemma =>
                      by_cases q1 : mid < en
                      · have q1' : (mid : Int) < en := by omega
                        by_cases q2 : en < b
                        · have q2' : (en : Int) < b := by omega
                          have e : b3 = true := by rw [hb3]; exact decide_eq_true ⟨q1, q2⟩
                          clear hb3 q1 q2
                          subst e
                          go_wp2_with fail
                          go_meet
                          exact ⟨rfl, rfl⟩
                        · have q2' : ¬ (en : Int) < b := by omega
                          have e : b3 = false := by rw [hb3]; exact decide_eq_false (fun h => q2 h.2)
                          clear hb3 q1 q2
                          subst e
                          go_wp2_with fail
                          go_meet
                          exact ⟨rfl, rfl⟩
                      · have q1' : ¬ (mid : Int) < en := by omega
                        have e : b3 = false := by rw [hb3]; exact decide_eq_false (fun h => q1 h.1)
                        clear hb3 q1
                        subst e
                        go_wp2_with fail
                        go_meet
                        exact ⟨rfl, rfl⟩
                  case rest =>
                    obtain ⟨rfl, hw2⟩ := hcut
                    have hw2 := hw2.symm
                    subst hw2
                    have HB := Lib.hid hb3
                    clear hb3
                    go_upto_if 213 with fail
                    have HLEN : Hid (∀ S1, IsSort (U1 ++ V1) S1 → S1.length = mid - a) := fun S1 h => by have h1 := h.len; rw [List.length_append] at h1; have := HP.out; have := L1.out; have := L2.out; have := L3.out; have := L4.out; have := HEN.out; have := QL.out; omega
                    cases b3
                    · have TE : Hid (∃ S, IsSort ((U1 ++ U2) ++ (V1 ++ V2)) S ∧ Tr ad (P ++ (S ++ Q)) w W3) := by
                        obtain ⟨S1, i1, T⟩ := T3.out
                        refine ⟨S1 ++ (U2 ++ V2), merge_parts SU.out SV.out (MU.out.app MV.out) D1.out D2.out i1 (isSort_of_sorted ?_), by simpa only [List.append_assoc] using T⟩
                        have nb := of_decide_eq_false HB.out.symm
                        have e : U2 = [] ∨ V2 = [] := by
                          have := L2.out; have := L4.out; have := HEN.out
                          by_cases h : mid < en
                          · exact .inr (List.eq_nil_of_length_eq_zero (by omega))
                          · exact .inl (List.eq_nil_of_length_eq_zero (by omega))
                        rcases e with e | e
                        · subst e; exact SV.out.right
                        · subst e; rw [List.append_nil]; exact SU.out.right
                      go_wp2_with fail
                      go_end0
                      refine ⟨rfl, ?_⟩
                      have q := TE.out
                      simpa only [List.append_assoc] using q
                    · obtain ⟨S1, i1, T⟩ := T3.out
                      have b3 := of_decide_eq_true HB.out.symm
                      have sl := HLEN.out S1 i1
                      have K := IH.out (P ++ S1) U2 V2 Q mid en b W3 (T.row.nof _ (by simp only [List.append_assoc])) SU.out.right SV.out.right MU.out.right MV.out.right (by have := HP.out; have := L1.out; have := L2.out; have := L3.out; have := L4.out; have := HEN.out; have := QL.out; omega) (by have := HP.out; have := L1.out; have := L2.out; have := L3.out; have := L4.out; have := HEN.out; have := QL.out; omega) (by have h0 := LT.out; rw [List.length_append, List.length_append] at h0; have := HP.out; have := L1.out; have := L2.out; have := L3.out; have := L4.out; have := HEN.out; have := QL.out; omega) (by rw [List.length_append]; have := HP.out; have := L1.out; have := L2.out; have := L3.out; have := L4.out; have := HEN.out; have := QL.out; omega) (by rw [List.length_append]; have := HP.out; have := L1.out; have := L2.out; have := L3.out; have := L4.out; have := HEN.out; have := QL.out; omega) (by rw [List.length_append]; have := HP.out; have := L1.out; have := L2.out; have := L3.out; have := L4.out; have := HEN.out; have := QL.out; omega) (by rw [List.length_append]; have := HP.out; have := L1.out; have := L2.out; have := L3.out; have := L4.out; have := HEN.out; have := QL.out; omega)
                      have T := Lib.hid T
                      have I1 := Lib.hid i1
                      clear b3 sl i1
                      go_wp2_with fail
                      refine K.mono ?_
                      rintro e w1 ⟨rfl, S2, i2, TR⟩
                      have TE : Hid (∃ S, IsSort ((U1 ++ U2) ++ (V1 ++ V2)) S ∧ Tr ad (P ++ (S ++ Q)) w w1) :=
                        ⟨S1 ++ S2, merge_parts SU.out SV.out (MU.out.app MV.out) D1.out D2.out I1.out i2, by have q := T.out.trans TR; simpa only [List.append_assoc] using q⟩
                      clear K TR T
                      go_wp2_with fail
                      go_end0
                      refine ⟨rfl, ?_⟩
                      have q := TE.out
                      simpa only [List.append_assoc] using q
/-- symMerge, of any two stretches. -/
theorem sym_any {ad : Addr} {N c : Nat} (KC : CmpOk) (hs : N ≤ 100000) : ∀ L, SymOk ad N c L
  | 0 => fun P U V Q a m b W h su sv mu mv hu hv hL => absurd hL (by omega)
  | L + 1 => fun P U V Q a m b W h su sv mu mv hu hv hL ha hm hb hN => by
    have IH := sym_any (ad := ad) (N := N) (c := c) KC hs L
    by_cases u1 : U.length = 1
    · obtain ⟨x, rfl⟩ : ∃ x, U = [x] := List.length_eq_one_iff.1 u1
      exact sym_one KC h sv (mu x (.head _)) mv ha (by simpa using hm) (by simpa using hb) (by simpa using hN) hs
    · by_cases v1 : V.length = 1
      · obtain ⟨y, rfl⟩ : ∃ y, V = [y] := List.length_eq_one_iff.1 v1
        exact sym_last KC h su (mv y (.head _)) mu u1 ha hm (by simpa using hb) (by simpa using hN) hs
      · exact sym_gen KC IH h su sv mu mv (by omega) (by omega) hL ha hm hb hN hs
end Go.Proofs.YthollkngfibgaaaDoor
namespace Go.Proofs.YthollkngfibgaaaDoor
open Go.RowKit
set_option linter.unusedVariables false
set_option linter.unusedSimpArgs false
set_option maxHeartbeats 4000000
set_option maxRecDepth 100000
/-- In order, stretch by stretch, z each. -/
def Bl (z : Nat) (s : List It) : Prop := ∀ k, Sorted ((s.drop (k * z)).take z)
theorem Bl.nil (z : Nat) : Bl z [] := fun k => by rw [List.drop_nil, List.take_nil]; exact .nil
theorem Bl.snoc {D S : List It} {t z : Nat} (h : Bl z D) (hd : D.length = t * z) (hs : Sorted S) (hl : S.length ≤ z) : Bl z (D ++ S) := by
  intro k
  rcases Nat.lt_trichotomy k t with lt | rfl | gt
  · have h1 : k * z + z ≤ t * z := by rw [← Nat.succ_mul]; exact Nat.mul_le_mul_right z lt
    rw [List.drop_append_of_le_length (by omega), List.take_append_of_le_length (by rw [List.length_drop]; omega)]
    exact h k
  · rw [← hd, List.drop_left, List.take_of_length_le hl]
    exact hs
  · have h1 : t * z + z ≤ k * z := by rw [← Nat.succ_mul]; exact Nat.mul_le_mul_right z gt
    rw [List.drop_eq_nil_of_le (by rw [List.length_append]; omega), List.take_nil]
    exact .nil
theorem Bl.head {U R : List It} {z : Nat} (h : Bl z (U ++ R)) (hu : U.length = z) : Sorted U ∧ Bl z R := by
  refine ⟨?_, fun k => ?_⟩
  · have := h 0
    rw [Nat.zero_mul, List.drop_zero, ← hu, List.take_left] at this
    exact this
  · have := h (k + 1)
    rw [Nat.succ_mul, Nat.add_comm, ← List.drop_drop, ← hu, List.drop_left, hu] at this
    exact this
theorem Bl.short {R : List It} {z : Nat} (h : Bl z R) (hr : R.length ≤ z) : Sorted R := by
  have := h 0
  rw [Nat.zero_mul, List.drop_zero, List.take_of_length_le hr] at this
  exact this
theorem Keeps.put {l D S S' Q : List It} (h : Keeps l (D ++ (S ++ Q))) (k : IsSort S S') : Keeps l (D ++ (S' ++ Q)) := h.trans ((Keeps.refl D).app (k.keeps.app (Keeps.refl Q)))
theorem stable_any {ad : Addr} {l : List It} {N c : Nat} {w : World} (KC : CmpOk) (h : Row3 w ad l) (ml : May l) (hl : l.length = N) (hs : N ≤ 100000) :
    Calls Tryd.prog 60 #[.slice (some ad) N c, .int .i64 (N : Int), .func (.func 13) #[] #[]] w fun e w' => e = .returned (.tuple #[]) ∧ ∃ s, IsSort l s ∧ Tr ad s w w' := by
  have T0 := Lib.hid (Tr.refl h)
  have KI := Lib.hid (fun (P S Q : List It) (a b : Nat) (W : World) (h : Row3 W ad (P ++ (S ++ Q))) (ms : May S) (ha : P.length = a) (hb : P.length + S.length = b) (hN : P.length + S.length + Q.length = N) => insert_any (c := c) KC h ms ha hb hN hs)
  have KM := Lib.hid (sym_any (ad := ad) (N := N) (c := c) KC hs N)
  have ML := Lib.hid ml; have HL := Lib.hid hl
  clear KC h ml hl
  go_enter Tryd.func60, Tryd.ntmps60
  go_wp2_with fail
  go_loopg [7, 8] N (fun q s7 s8 wr => ∃ a : Nat, s7 = .int .i64 (a : Int) ∧ s8 = .int .i64 ((a + 20 : Nat) : Int) ∧ a ≤ N ∧ N ≤ q + a ∧ Hid (∃ D R t, D.length = a ∧ a = t * 20 ∧ D.length + R.length = N ∧ Bl 20 D ∧ Keeps l (D ++ R) ∧ Tr ad (D ++ R) w wr))
  case atStart => exact ⟨0, by go_num, by go_num, Nat.zero_le _, Nat.le_refl _, ⟨[], l, 0, rfl, rfl, by have := HL.out; simpa using this, Bl.nil _, Keeps.refl _, T0.out⟩⟩
  case round =>
    obtain ⟨a, rfl, rfl, aN, hq, R⟩ := hrel
    clear T0
    obtain ⟨D, R, t, h1, h2, h3, h4, h5, T⟩ := R.out
    have H1 := Lib.hid h1; have H2 := Lib.hid h2; have H3 := Lib.hid h3; have H4 := Lib.hid h4; have H5 := Lib.hid h5; have HT := Lib.hid T; have HQ := Lib.hid hq
    obtain ⟨b, hb⟩ : ∃ b, b = a + 20 := ⟨_, rfl⟩
    rw [← hb]
    have MR : Hid (May R) := (h5.may ML.out).right
    clear h1 h2 h3 h4 h5 hq
    by_cases lt : b ≤ N
    · have lt1 : (b : Int) ≤ N := by omega
      have K := KI.out D (R.take 20) (R.drop 20) a b wr (T.row.nof _ (by rw [List.take_append_drop])) (fun y hy => MR.out y (List.mem_of_mem_take hy)) H1.out (by rw [List.length_take]; have := H1.out; have := H3.out; omega) (by rw [List.length_take, List.length_drop]; have := H1.out; have := H3.out; omega)
      have HB := Lib.hid hb
      have w1 : IntKind.i64.wrap ((b : Int) + 20) = ((b + 20 : Nat) : Int) := by rw [IntKind.wrap_i64]; omega
      clear T hb
      go_wp2_with fail
      refine K.mono ?_
      rintro e w1 ⟨rfl, S', st, T1⟩
      have NX : Hid (∃ D R t, D.length = b ∧ b = t * 20 ∧ D.length + R.length = N ∧ Bl 20 D ∧ Keeps l (D ++ R) ∧ Tr ad (D ++ R) w w1) := by
        have sl := st.len
        have hb := HB.out; have q1 := H1.out; have q3 := H3.out
        rw [List.length_take] at sl
        refine ⟨D ++ S', R.drop 20, t + 1, by rw [List.length_append]; omega, by have := H2.out; omega, by rw [List.length_append, List.length_drop]; omega, H4.out.snoc (t := t) (by have := H2.out; omega) st.sorted (by omega), ?_, ?_⟩
        · have q5 := H5.out
          rw [← List.take_append_drop 20 R] at q5
          have := q5.put st
          rw [List.append_assoc]
          exact this
        · rw [List.append_assoc]; exact HT.out.trans T1
      clear K T1 st
      go_wp2_with fail
      go_roundg (gk - 1)
      case measure => have := HQ.out; have := HB.out; omega
      case rel =>
        go_light
        exact ⟨b, rfl, by go_num, by omega, by have := HQ.out; have := HB.out; omega, NX⟩
    · have lt1 : ¬ (b : Int) ≤ N := by omega
      have K := KI.out D R [] a N wr (T.row.nof _ (by simp)) MR.out H1.out H3.out (by simpa using H3.out)
      have HB := Lib.hid hb
      clear T hb lt
      go_wp2_with fail
      refine K.mono ?_
      rintro e w1 ⟨rfl, S', st, T1⟩
      have NX : Hid (∃ cur, cur.length = N ∧ Bl 20 cur ∧ Keeps l cur ∧ Tr ad cur w w1) := by
        have sl := st.len
        have hb := HB.out; have q1 := H1.out; have q3 := H3.out
        refine ⟨D ++ S', by rw [List.length_append]; omega, H4.out.snoc (t := t) (by have := H2.out; omega) st.sorted (by omega), ?_, ?_⟩
        · have q5 : Keeps l (D ++ (R ++ [])) := by rw [List.append_nil]; exact H5.out
          have := q5.put st
          rw [List.append_nil] at this
          exact this
        · have := HT.out.trans T1
          rw [List.append_nil] at this
          exact this
      clear K T1 st H1 H2 H3 H4 H5 HT HB MR HQ lt1 KI
      generalize w1 = W1 at *
      go_wp2_with fail
      go_loopg [6] N (fun q s6 wr => ∃ z : Nat, s6 = .int .i64 (z : Int) ∧ 0 < z ∧ z ≤ 200000 ∧ N ≤ q + z ∧ Hid (∃ cur, cur.length = N ∧ Bl z cur ∧ Keeps l cur ∧ Tr ad cur w wr))
      case atStart => exact ⟨20, rfl, by decide, by decide, by omega, NX⟩
      case round =>
        obtain ⟨z, rfl, z0, zt, hq, R⟩ := hrel
        clear NX
        obtain ⟨X, rfl⟩ : ∃ X, X = gk := ⟨_, rfl⟩
        by_cases lt : z < N
        · have lt1 : (z : Int) < N := by omega
          obtain ⟨y, hy⟩ : ∃ y, y = 2 * z := ⟨_, rfl⟩
          have y1 : IntKind.i64.wrap (2 * (z : Int)) = (y : Int) := by rw [IntKind.wrap_i64]; omega
          have y2 : IntKind.i64.wrap ((z : Int) * 2) = (y : Int) := by rw [IntKind.wrap_i64]; omega
          have yb : y ≤ 200000 := by omega
          have HY := Lib.hid hy; have HQ := Lib.hid hq; have HZ := Lib.hid (show 0 < z from z0)
          have I0 : Hid (∃ D R t, D.length = 0 ∧ 0 = t * y ∧ D.length + R.length = N ∧ Bl y D ∧ Bl z R ∧ Keeps l (D ++ R) ∧ Tr ad (D ++ R) w wr) := by
            obtain ⟨cur, c1, c2, c3, c4⟩ := R.out
            exact ⟨[], cur, 0, rfl, by omega, by simpa using c1, Bl.nil _, c2, c3, c4⟩
          clear R hy hq lt
          go_wp2_with fail
          go_loopg [7, 8] N (fun q s7 s8 wt => ∃ a : Nat, s7 = .int .i64 (a : Int) ∧ s8 = .int .i64 ((a + y : Nat) : Int) ∧ a ≤ N ∧ N ≤ q + a ∧ Hid (∃ D R t, D.length = a ∧ a = t * y ∧ D.length + R.length = N ∧ Bl y D ∧ Bl z R ∧ Keeps l (D ++ R) ∧ Tr ad (D ++ R) w wt))
          case atStart => exact ⟨0, by go_num, by go_num, Nat.zero_le _, by omega, I0⟩
          case round =>
            obtain ⟨a, rfl, rfl, aN, hq, R⟩ := hrel
            clear I0
            obtain ⟨D, R, t, h1, h2, h3, h4, h6, h5, T⟩ := R.out
            have H1 := Lib.hid h1; have H2 := Lib.hid h2; have H3 := Lib.hid h3; have H4 := Lib.hid h4; have H5 := Lib.hid h5; have H6 := Lib.hid h6; have HT := Lib.hid T; have HQ2 := Lib.hid hq
            obtain ⟨b, hb⟩ : ∃ b, b = a + y := ⟨_, rfl⟩
            rw [← hb]
            have MR : Hid (May R) := (h5.may ML.out).right
            obtain ⟨mm, hmm⟩ : ∃ mm, mm = a + z := ⟨_, rfl⟩
            have m1 : IntKind.i64.wrap ((a : Int) + z) = (mm : Int) := by rw [IntKind.wrap_i64]; omega
            have HM := Lib.hid hmm; have HB := Lib.hid hb
            clear h1 h2 h3 h4 h5 h6 hq
            by_cases lt : b ≤ N
            · have lt1 : (b : Int) ≤ N := by omega
              have yz := HY.out
              have zz := HZ.out
              obtain ⟨U, V, Q, hR, lu, lv⟩ : ∃ U V Q, R = U ++ (V ++ Q) ∧ U.length = z ∧ V.length = z := by
                have q1 := H1.out; have q3 := H3.out
                refine ⟨R.take z, (R.drop z).take z, (R.drop z).drop z, by rw [List.take_append_drop, List.take_append_drop], ?_, ?_⟩
                · rw [List.length_take]; omega
                · rw [List.length_take, List.length_drop]; omega
              subst hR
              have B1 := H6.out.head lu
              have B2 := B1.2.head lv
              have lq : D.length + U.length + V.length + Q.length = N := by have := H3.out; simp only [List.length_append] at this; omega
              have K := KM.out D U V Q a mm b wr T.row B1.1 B2.1 MR.out.left MR.out.right.left (by omega) (by omega) (by have := H1.out; omega) H1.out (by have := H1.out; omega) (by have := H1.out; omega) lq
              have LU := Lib.hid lu; have LV := Lib.hid lv; have LQ := Lib.hid lq; have BQ := Lib.hid B2.2
              have w1 : IntKind.i64.wrap ((b : Int) + y) = ((b + y : Nat) : Int) := by rw [IntKind.wrap_i64]; omega
              clear T hb hmm B1 B2 lu lv lq yz zz lt
              go_wp2_with fail
              refine K.mono ?_
              rintro e w1 ⟨rfl, S', st, T1⟩
              have NX : Hid (∃ D R t, D.length = b ∧ b = t * y ∧ D.length + R.length = N ∧ Bl y D ∧ Bl z R ∧ Keeps l (D ++ R) ∧ Tr ad (D ++ R) w w1) := by
                have sl := st.len
                have hb := HB.out; have q1 := H1.out; have q3 := LQ.out; have yz := HY.out; have lu := LU.out; have lv := LV.out
                rw [List.length_append] at sl
                refine ⟨D ++ S', Q, t + 1, by rw [List.length_append]; omega, by have := H2.out; rw [Nat.succ_mul]; omega, by rw [List.length_append]; omega, H4.out.snoc (t := t) (by have := H2.out; omega) st.sorted (by omega), BQ.out, ?_, ?_⟩
                · have q5 := H5.out
                  rw [← List.append_assoc U] at q5
                  have := q5.put st
                  rw [List.append_assoc]
                  exact this
                · rw [List.append_assoc]; exact HT.out.trans T1
              clear K T1 st
              go_wp2_with fail
              go_roundg (gk - 1)
              case measure => have := HQ2.out; have := HB.out; have := HY.out; have := HZ.out; omega
              case rel =>
                go_light
                exact ⟨b, rfl, by go_num, by omega, by have := HQ2.out; have := HB.out; have := HY.out; have := HZ.out; omega, NX⟩
            · have lt1 : ¬ (b : Int) ≤ N := by omega
              by_cases ml : mm < N
              · have ml1 : (mm : Int) < N := by omega
                have yz := HY.out
                have zz := HZ.out
                obtain ⟨U, V, hR, lu, lv⟩ : ∃ U V, R = U ++ V ∧ U.length = z ∧ V.length = N - mm := by
                  have q1 := H1.out; have q3 := H3.out
                  refine ⟨R.take z, R.drop z, by rw [List.take_append_drop], ?_, ?_⟩
                  · rw [List.length_take]; omega
                  · rw [List.length_drop]; omega
                subst hR
                have B1 := H6.out.head lu
                have sV := B1.2.short (by omega)
                have lq : D.length + U.length + V.length = N := by have := H3.out; simp only [List.length_append] at this; omega
                have K := KM.out D U V [] a mm N wr (T.row.nof _ (by simp)) B1.1 sV MR.out.left MR.out.right (by omega) (by omega) (by have := H1.out; omega) H1.out (by have := H1.out; omega) lq (by simpa using lq)
                have LU := Lib.hid lu; have LV := Lib.hid lv; have LQ := Lib.hid lq
                clear T hb hmm B1 sV lu lv lq yz zz lt ml
                go_wp2_with fail
                refine K.mono ?_
                rintro e w1 ⟨rfl, S', st, T1⟩
                have NX : Hid (∃ cur, cur.length = N ∧ Bl y cur ∧ Keeps l cur ∧ Tr ad cur w w1) := by
                  have sl := st.len
                  have hb := HB.out; have q1 := H1.out; have q3 := LQ.out; have yz := HY.out; have lu := LU.out; have lv := LV.out
                  rw [List.length_append] at sl
                  refine ⟨D ++ S', by rw [List.length_append]; omega, H4.out.snoc (t := t) (by have := H2.out; omega) st.sorted (by omega), ?_, ?_⟩
                  · have q5 := H5.out
                    have q6 : Keeps l (D ++ ((U ++ V) ++ [])) := by rw [List.append_nil]; exact q5
                    have := q6.put st
                    rw [List.append_nil] at this
                    exact this
                  · have := HT.out.trans T1
                    rw [List.append_nil] at this
                    exact this
                clear K T1 st
                go_wp2_with fail
                go_roundg (X - 1)
                case measure => have := HQ.out; omega
                case rel =>
                  go_light
                  exact ⟨y, rfl, by have := HY.out; have := HZ.out; omega, yb, by have := HQ.out; have := HY.out; have := HZ.out; omega, NX⟩
              · have ml1 : ¬ (mm : Int) < N := by omega
                have NX : Hid (∃ cur, cur.length = N ∧ Bl y cur ∧ Keeps l cur ∧ Tr ad cur w wr) := by
                  have q1 := H1.out; have q3 := H3.out
                  refine ⟨D ++ R, by rw [List.length_append]; omega, H4.out.snoc (t := t) (by have := H2.out; omega) (H6.out.short (by omega)) (by have := HY.out; omega), H5.out, T⟩
                clear T hb hmm lt ml
                go_wp2_with fail
                go_roundg (X - 1)
                case measure => have := HQ.out; omega
                case rel =>
                  go_light
                  exact ⟨y, rfl, by have := HY.out; have := HZ.out; omega, yb, by have := HQ.out; have := HY.out; have := HZ.out; omega, NX⟩
        · have lt1 : ¬ (z : Int) < N := by omega
          have EN : Hid (∃ s, IsSort l s ∧ Tr ad s w wr) := by
            obtain ⟨cur, c1, c2, c3, c4⟩ := R.out
            exact ⟨cur, c3.sort (c2.short (by omega)), c4⟩
          clear R lt hq
          go_wp2_with fail
          go_end0
          exact ⟨rfl, EN.out⟩
end Go.Proofs.YthollkngfibgaaaDoor
namespace Go.Proofs.YthollkngfibgaaaDoor
open Go.RowKit
set_option linter.unusedVariables false
theorem Lies.set2 {W : World} {b : Nat} {B B' : Option Addr} {m k m' k' : Nat} (c0 : W.cell? ⟨b, 0, none⟩ = some (.slice B m k)) (c1 : W.cell? ⟨b, 1, none⟩ = some (.slice B' m' k')) (u' v' : Value) : ∀ {l : List (Option Addr × Nat × Nat × List Nat)}, Lies l W → Lies l ((W.setCell ⟨b, 0, none⟩ u').setCell ⟨b, 1, none⟩ v')
  | [], _ => trivial
  | (_, _, _, _) :: _, h => ⟨h.1.put2 c0 c1 _ _, Lies.set2 c0 c1 u' v' h.2⟩
theorem cels_keep {W : World} {b : Nat} (u' v' : Value) : ∀ {l : List (Nat × Value × Value)}, (∀ x ∈ l, x.1 ≠ b) → Cels l W → Cels l ((W.setCell ⟨b, 0, none⟩ u').setCell ⟨b, 1, none⟩ v')
  | [], _, _ => trivial
  | (c, _, _) :: _, hne, h => by
    have hc : c ≠ b := hne _ List.mem_cons_self
    exact ⟨⟨keep_set (keep_set h.1.1 _ hc) _ hc, keep_set (keep_set h.1.2.1 _ hc) _ hc, (World.frozen?_setCell _ _ _ _).trans ((World.frozen?_setCell _ _ _ _).trans h.1.2.2.1), (World.frozen?_setCell _ _ _ _).trans ((World.frozen?_setCell _ _ _ _).trans h.1.2.2.2.1), by simpa using h.1.2.2.2.2⟩, cels_keep u' v' (fun x hx => hne x (by simp [hx])) h.2⟩
theorem cels_app {W : World} : ∀ {p q : List (Nat × Value × Value)}, Cels (p ++ q) W ↔ Cels p W ∧ Cels q W
  | [], q => ⟨fun h => ⟨trivial, h⟩, fun h => h.2⟩
  | (_, _, _) :: p, q => by
    show _ ∧ Cels (p ++ q) W ↔ (_ ∧ Cels p W) ∧ Cels q W
    rw [cels_app]
    exact ⟨fun h => ⟨⟨h.1, h.2.1⟩, h.2.2⟩, fun h => ⟨h.1.1, h.1.2, h.2⟩⟩
/-- A block that is written anew. -/
theorem Fs.set {w W : World} {p q : List (Nat × Value × Value)} {l : List (Option Addr × Nat × Nat × List Nat)} {b : Nat} {B B' : Option Addr} {m k m' k' : Nat} (s : Fs w (p ++ (b, .slice B m k, .slice B' m' k') :: q) l W) (hb : w.heap.size ≤ b) (hne : ∀ x ∈ p ++ q, x.1 ≠ b) (u' v' : Value) :
    Fs w (p ++ (b, u', v') :: q) l ((W.setCell ⟨b, 0, none⟩ u').setCell ⟨b, 1, none⟩ v') := by
  obtain ⟨h1, h2⟩ := cels_app.1 s.cel
  obtain ⟨⟨c0, c1, m0, m1, sz⟩, h3⟩ := h2
  refine ⟨s.lie.set2 c0 c1 _ _, cels_app.2 ⟨cels_keep _ _ (fun x hx => hne x (by simp [hx])) h1, ⟨⟨?_, ?_, (World.frozen?_setCell _ _ _ _).trans ((World.frozen?_setCell _ _ _ _).trans m0), (World.frozen?_setCell _ _ _ _).trans ((World.frozen?_setCell _ _ _ _).trans m1), by simpa using sz⟩, cels_keep _ _ (fun x hx => hne x (by simp [hx])) h3⟩⟩, (s.bl.setCell hb _).setCell hb _⟩
  · rw [World.cell?_setCell_other _ _ _ _ (by simp)]
    exact World.cell?_setCell_same _ _ _ c0
  · exact World.cell?_setCell_same _ _ _ ((World.cell?_setCell_other _ _ _ _ (by simp)).trans c1)
end Go.Proofs.YthollkngfibgaaaDoor
namespace Go.Proofs.YthollkngfibgaaaDoor
open Go.RowKit
set_option linter.unusedVariables false
set_option linter.unusedSimpArgs false
set_option maxHeartbeats 2000000
set_option maxRecDepth 100000
theorem cmpBytes : ∀ x y : List UInt8, Lib.compareBytes x y = if Op.bytesLess x y = true then -1 else if Op.bytesLess y x = true then 1 else 0
  | [], [] => by simp [Lib.compareBytes, Op.bytesLess]
  | [], _ :: _ => by simp [Lib.compareBytes, Op.bytesLess]
  | _ :: _, [] => by simp [Lib.compareBytes, Op.bytesLess]
  | a :: x, b :: y => by
    rw [Lib.compareBytes, Op.bytesLess, Op.bytesLess, cmpBytes x y]
    by_cases h : a < b
    · simp [h]
    · by_cases k : b < a
      · have : ¬ a = b := by rintro rfl; exact h k
        simp [h, k, this]
      · have : a = b := by
          rw [UInt8.lt_iff_toNat_lt] at h k
          exact UInt8.toNat_inj.1 (by omega)
        subst this
        simp [h]
theorem cmpBytes_ksg (a b : ByteArray) : Lib.compareBytes a.data.toList b.data.toList = ksg a b := by
  rw [cmpBytes]
  unfold ksg
  rw [ByteArray.toList_eq, ByteArray.toList_eq]
theorem rankCmp_any : CmpOk := by
  intro a b ha hb w
  obtain ⟨ak, au, aw⟩ := a
  obtain ⟨bk, bu, bw⟩ := b
  have fa := ha.u; have fa2 := ha.w; have fb := hb.u; have fb2 := hb.w
  dsimp only at fa fa2 fb fb2
  have full : ∀ (x y : Nat), x < 18446744073709551616 → y < 18446744073709551616 → ∀ W : World, Calls Tryd.prog 31 #[.int .u64 (x : Int), .int .u64 (y : Int)] W fun e W' => e = .returned (Wd.U (x * y)) ∧ Below W.heap.size W W' := by
    intro x y hx hy W
    refine (Wd.full_any x y (Wd.word_nat hx) (Wd.word_nat hy) W).mono ?_
    rintro e W' ⟨rfl, c, rfl⟩
    exact ⟨by simp, (Below.refl _ _).alloc (Nat.le_refl _) _⟩
  have K1 := Lib.hid (fun W => full au bw fa fb2 W)
  have K2 := Lib.hid (fun W => full bu aw fb fa2 W)
  have KC : Hid (∀ W : World, Calls Tryd.prog 30 #[Wd.U (au * bw), Wd.U (bu * aw)] W fun e W' => e = .returned (.int .i64 (sgn (au * bw) (bu * aw))) ∧ Below W.heap.size W W') := by
    intro W
    refine (Wd.cmp_any (au * bw) (bu * aw) W).mono ?_
    rintro e W' ⟨rfl, c1, c2, rfl⟩
    exact ⟨by rw [sgn_same], ((Below.refl _ _).alloc (Nat.le_refl _) _).alloc (by simp) _⟩
  have KS : Hid (∀ W : World, Calls Tryd.prog 32 #[.string ak, .string bk] W fun e W' => e = .returned (.int .i64 (ksg ak bk)) ∧ W = W') := by
    intro W
    refine (Tryd.strings_Compare ak bk W).mono ?_
    rintro e W' ⟨rfl, rfl⟩
    exact ⟨by rw [cmpBytes_ksg], rfl⟩
  clear full
  have CS := Lib.hid (show cmpI ⟨ak, au, aw⟩ ⟨bk, bu, bw⟩ = if sgn (au * bw) (bu * aw) = 0 then ksg ak bk else sgn (au * bw) (bu * aw) by unfold cmpI; rfl)
  generalize au * bw = p at *
  generalize bu * aw = q at *
  generalize sgn p q = c at *
  clear fa fa2 fb fb2 ha hb
  have D := Duo.new w #[.string ak, .int .u64 (au : Int), .int .u64 (aw : Int)] #[.string bk, .int .u64 (bu : Int), .int .u64 (bw : Int)] 24 24
  obtain ⟨g, hg⟩ : ∃ g, w.heap.size = g := ⟨_, rfl⟩
  rw [hg] at D
  go_enter Tryd.func13, Tryd.ntmps13
  go_wp2_with fail
  clear hg
  generalize (w.alloc (.cells #[.string ak, .int .u64 (au : Int), .int .u64 (aw : Int)] 24)).alloc (.cells #[.string bk, .int .u64 (bu : Int), .int .u64 (bw : Int)] 24) = W at *
  generalize g + 1 = r at *
  obtain ⟨a0, a1, a2⟩ := D.bg.three
  obtain ⟨b0, b1, b2⟩ := D.br.three
  have BW := Lib.hid D.bl
  go_region_held3 (fun w' => w'.cell? ⟨g, 0, none⟩ = some (.string ak) ∧ w'.cell? ⟨g, 1, none⟩ = some (.int .u64 (au : Int)) ∧ w'.cell? ⟨g, 2, none⟩ = some (.int .u64 (aw : Int)) ∧ w'.cell? ⟨r, 0, none⟩ = some (.string bk) ∧ w'.cell? ⟨r, 1, none⟩ = some (.int .u64 (bu : Int)) ∧ w'.cell? ⟨r, 2, none⟩ = some (.int .u64 (bw : Int)))
    ((refine ⟨?_, ?_, ?_, ?_, ?_, ?_⟩ <;> (repeat (first | with_reducible exact a0 | with_reducible exact a1 | with_reducible exact a2 | with_reducible exact b0 | with_reducible exact b1 | with_reducible exact b2 | with_reducible refine keep_drew ?_ | with_reducible refine keep_cell (by assumption) ?_))))
    (first
      | (go_at_call 31; (with_reducible refine (K1.out _).mono ?_); rintro e z ⟨rfl, BZ⟩)
      | (go_at_call 31; (with_reducible refine (K2.out _).mono ?_); rintro e z ⟨rfl, BZ⟩)
      | (go_at_call 30; (with_reducible refine (KC.out _).mono ?_); rintro e z ⟨rfl, BZ⟩))
  rename_i z1 B1 z2 B2 H6
  have BL := Lib.hid (below_step (below_step (below_step BW.out.drew B1) B2) BZ)
  obtain ⟨e0, e1, e2, f0, f1, f2⟩ := H6
  clear a0 a1 a2 b0 b1 b2 e1 e2 f1 f2 B1 B2 BZ D K1 K2 KC
  by_cases hc : c = 0
  · rw [if_pos hc] at CS
    have hb : (c == 0) = true := by simpa using hc
    have hb2 : (c != 0) = false := by simpa using hc
    go_wp2_with fail
    refine (KS.out _).mono ?_
    rintro e z ⟨rfl, rfl⟩
    go_wp2_with fail
    go_ret
    exact ⟨by rw [CS.out]; rfl, BL.out⟩
  · rw [if_neg hc] at CS
    have hb : (c == 0) = false := by simpa using hc
    have hb2 : (c != 0) = true := by simpa using hc
    go_wp2_with fail
    go_ret
    exact ⟨by rw [CS.out]; rfl, BL.out⟩
theorem rankCheck_any (a : It) (w : World) : Calls Tryd.prog 15 #[itv a] w fun e w' => e = .returned (.int .i64 (chk a)) ∧ Below w.heap.size w w' := by
  obtain ⟨ak, au, aw⟩ := a
  have D := One.new w #[.string ak, .int .u64 (au : Int), .int .u64 (aw : Int)] 24
  obtain ⟨c0, c1, c2⟩ := D.bg.three
  have BL := Lib.hid D.bl
  by_cases h1 : 64 < ak.size
  · have l1 : (64 : Int) < ak.size := by omega
    have e : Hid (chk ⟨ak, au, aw⟩ = 5) := by unfold Hid chk; dsimp only; rw [if_pos h1]
    clear h1 D
    go_enter Tryd.func15, Tryd.ntmps15
    go_wp2_with fail
    go_ret
    exact ⟨by rw [e.out]; rfl, BL.out⟩
  · have l1 : ¬ (64 : Int) < ak.size := by omega
    by_cases h2 : aw = 0
    · have l2 : ((aw : Int) == 0) = true := by simpa using h2
      have e : Hid (chk ⟨ak, au, aw⟩ = 7) := by unfold Hid chk; dsimp only; rw [if_neg h1, if_pos h2]
      clear h1 h2 D
      go_enter Tryd.func15, Tryd.ntmps15
      go_wp2_with fail
      go_ret
      exact ⟨by rw [e.out]; rfl, BL.out⟩
    · have l2 : ((aw : Int) == 0) = false := by simpa using h2
      have e : Hid (chk ⟨ak, au, aw⟩ = 0) := by unfold Hid chk; dsimp only; rw [if_neg h1, if_neg h2]
      clear h1 h2 D
      go_enter Tryd.func15, Tryd.ntmps15
      go_wp2_with fail
      go_ret
      exact ⟨by rw [e.out]; rfl, BL.out⟩
theorem keep_set10 {w : World} {g r i j : Nat} {v : Value} (h : w.cell? ⟨g, i, none⟩ = some v) (u : Value) (hn : g ≠ r) : (w.setCell ⟨r, j, none⟩ u).cell? ⟨g, i, none⟩ = some v := by
  rw [World.cell?_of_block (w := w) (Below.heap_setCell w ⟨r, j, none⟩ u g hn)]; exact h
theorem rankRank_any (a : It) (fa : a.Fit) (w : World) : Calls Tryd.prog 10 #[itv a] w fun e w' => RetA3 (rnk a) w e w' := by
  have KC := Lib.hid (fun W => rankCheck_any a W)
  obtain ⟨ak, au, aw⟩ := a
  have fu := fa.u; have fw := fa.w
  dsimp only at fu fw
  have M := Duo.new w #[.string ak, .int .u64 (au : Int), .int .u64 (aw : Int)] #[.slice none 0 0, .slice none 0 0] 24 30
  obtain ⟨g, hg⟩ : ∃ g, w.heap.size = g := ⟨_, rfl⟩
  rw [hg] at M
  by_cases hc : chk ⟨ak, au, aw⟩ = 0
  · have hr : Hid (rnk ⟨ak, au, aw⟩ = red au aw) := by unfold Hid rnk red; rw [if_pos hc]
    have w0 : aw ≠ 0 := by have := (chk_zero.1 hc).2; dsimp only at this; omega
    rw [hc] at KC
    have O1 := Lib.hid (fun W => of_any au fu W)
    have O2 := Lib.hid (fun W => of_any aw fw W)
    have MK := Lib.hid (fun (A A' : Option Addr) (n c n' c' : Nat) (W : World) (h : Lim W A n c (limbs au)) (h' : Lim W A' n' c' (limbs aw)) => make_yes h h' (Nat.le_trans (ln_word fu) (by decide)) (Nat.le_trans (ln_word fw) (by decide)) w0)
    clear fa fu fw hc w0
    go_enter Tryd.func10, Tryd.ntmps10
    obtain ⟨g0, g1, g2⟩ := M.bg.three
    go_wp2_with fail
    clear hg
    generalize (w.alloc (.cells #[.string ak, .int .u64 (au : Int), .int .u64 (aw : Int)] 24)).alloc (.cells #[.slice none 0 0, .slice none 0 0] 30) = W0 at *
    generalize g + 1 = r at *
    refine (KC.out _).mono ?_
    rintro e W1 ⟨rfl, B1⟩
    replace M := M.next B1
    clear B1 KC g0 g1 g2
    obtain ⟨g0, g1, g2⟩ := M.bg.three
    obtain ⟨r0, r1⟩ := M.br.two
    have r2 := M.br.melt 0; have r3 := M.br.melt 1
    go_wp2_with fail
    have gr := M.ne
    go_region_held3 (fun w' => w'.cell? ⟨g, 1, none⟩ = some (.int .u64 (au : Int)) ∧ w'.cell? ⟨g, 2, none⟩ = some (.int .u64 (aw : Int)))
      ((refine ⟨?_, ?_⟩ <;> (repeat (first | with_reducible exact g1 | with_reducible exact g2 | with_reducible refine keep_drew ?_ | with_reducible refine keep_set10 ?_ _ gr | with_reducible refine keep_cell (by assumption) ?_))))
      (first
        | (go_at_call 26; (with_reducible refine (O1.out _).mono ?_); rintro e y1 ⟨A1, n1, c1, rfl, L1, B1⟩)
        | (go_at_call 26; (with_reducible refine (O2.out _).mono ?_); rintro e y2 ⟨A2, n2, c2, rfl, L2, B2⟩)
        | (go_at_call 25; (with_reducible refine (MK.out _ _ _ _ _ _ _ ?_ ?_).mono ?_); (· repeat (first | assumption | refine Lim.next ?_ (by assumption))); (· repeat (first | assumption | refine Lim.next ?_ (by assumption))); rintro e y3 ⟨A3, n3, c3, A4, n4, c4, rfl, L3, L4, B3⟩; have D3 : Duo w g r #[.string ak, .int .u64 (au : Int), .int .u64 (aw : Int)] #[.slice none 0 0, .slice none 0 0] y3 := (by refine Duo.next ?_ B3; refine Duo.next ?_ (by assumption); refine Duo.next ?_ (by assumption); exact M.drew); obtain ⟨q0, q1⟩ := D3.br.two; have q2 := D3.br.melt 0; have q3 := D3.br.melt 1))
    have s := Fs.set (w := w) (W := y3) (p := []) (q := []) (l := [(A3, n3, c3, limbs (red au aw).1), (A4, n4, c4, limbs (red au aw).2.1)]) ⟨⟨L3, L4, trivial⟩, ⟨⟨q0, q1, q2, q3, D3.br.lt⟩, trivial⟩, D3.bl⟩ D3.hr (by simp) (.slice A3 n3 c3) (.slice A4 n4 c4)
    generalize (y3.setCell ⟨r, 0, none⟩ (.slice A3 n3 c3)).setCell ⟨r, 1, none⟩ (.slice A4 n4 c4) = W9 at *
    have z0 := s.cel.1.1
    have z1 := s.cel.1.2.1
    have SL := Lib.hid s
    clear s q0 q1 q2 q3 D3 L3 L4 B3 L1 L2 B1 B2 g0 g1 g2 r0 r1 r2 r3
    go_wp2_with fail
    refine bodyPost_ret (v := .tuple #[.agg #[.slice A3 n3 c3, .slice A4 n4 c4], .int .i64 (red au aw).2.2]) (by simp [results, Tryd.results10, go_sem, z0, z1]) rfl ?_
    rw [hr.out]
    exact ⟨_, _, _, _, _, _, rfl, SL.out.lie.1, SL.out.lie.2.1, SL.out.bl⟩
  · have hr : Hid (rnk ⟨ak, au, aw⟩ = (0, 0, chk ⟨ak, au, aw⟩)) := by unfold Hid rnk; rw [if_neg hc]
    generalize chk ⟨ak, au, aw⟩ = cc at *
    have hb : (cc != 0) = true := by simpa using hc
    have hb2 : (cc == 0) = false := by simpa using hc
    clear fa fu fw
    go_enter Tryd.func10, Tryd.ntmps10
    obtain ⟨g0, g1, g2⟩ := M.bg.three
    go_wp2_with fail
    clear hg
    generalize (w.alloc (.cells #[.string ak, .int .u64 (au : Int), .int .u64 (aw : Int)] 24)).alloc (.cells #[.slice none 0 0, .slice none 0 0] 30) = W0 at *
    generalize g + 1 = r at *
    refine (KC.out _).mono ?_
    rintro e W1 ⟨rfl, B1⟩
    replace M := M.next B1
    clear B1 KC g0 g1 g2
    obtain ⟨r0, r1⟩ := M.br.two
    have r2 := M.br.melt 0; have r3 := M.br.melt 1
    go_wp2_with fail
    replace M := M.put2 (.slice none 0 0) (.slice none 0 0)
    generalize (W1.setCell ⟨r, 0, none⟩ (.slice none 0 0)).setCell ⟨r, 1, none⟩ (.slice none 0 0) = W9 at *
    obtain ⟨z0, z1⟩ := M.br.two
    refine bodyPost_ret (v := .tuple #[.agg #[.slice none 0 0, .slice none 0 0], .int .i64 cc]) (by simp [results, Tryd.results10, go_sem, z0, z1]) rfl ?_
    rw [hr.out]
    exact ⟨_, _, _, _, _, _, rfl, lim_z W9, lim_z W9, M.bl⟩
end Go.Proofs.YthollkngfibgaaaDoor
