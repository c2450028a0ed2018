/- The walk of divLong. The walks of Clone, divide, Div. The walks of word, gcdWords, Gcd. Plain arithmetic: decimal digits and texts. The walks of withDigits, trimRightByte, TrimRight. -/
import Derived.Test.YthollkngfibgaaaDoorJ03
import Derived.Lib.SliceRun
import Derived.Maps.AppendAt
namespace Go.Proofs.YthollkngfibgaaaDoor
open Go.RowKit
set_option linter.unusedVariables false
set_option linter.unusedSimpArgs false

/-- Two naturals. -/
def RetD (q r : Nat) (w : World) (e : Ending) (w' : World) : Prop := ∃ A n c A' n' c', e = .returned (.tuple #[.slice A n c, .slice A' n' c']) ∧ Lim w' A n c (limbs q) ∧ Lim w' A' n' c' (limbs r) ∧ Below w.heap.size w w'
/-- Both shifted numbers, in blocks of their own. -/
structure Two (w : World) (n m a b : Nat) (gR gV : Nat) (S vs : List Nat) (wx : World) : Prop where
  sl : S.length = n + 1
  vl : vs.length = m + 1
  sv : val S = a
  vv : val vs = b
  r1 : Row wx gR S
  r2 : Row wx gV vs
  ne : gR ≠ gV
  g1 : w.heap.size ≤ gR
  g2 : w.heap.size ≤ gV
  bl : Below w.heap.size w wx
theorem Two.ab {w W wa wb : World} {n m a b : Nat} {sa sb : List Nat} (h0 : Below w.heap.size w W) (la : sa.length = n + 1) (va : val sa = a) (ra : Row wa W.heap.size sa) (ba : Below W.heap.size W wa)
    (lb : sb.length = m + 1) (vb : val sb = b) (rb : Row wb wa.heap.size sb) (bb : Below wa.heap.size wa wb) : Two w n m a b W.heap.size wa.heap.size sa sb wb :=
  ⟨la, lb, va, vb, ra.next bb, rb, Nat.ne_of_lt ra.lt, h0.size, Nat.le_trans h0.size ba.size, below_step (below_step h0 ba) bb⟩
theorem Two.ba {w W wa wb : World} {n m a b : Nat} {sa sb : List Nat} (h0 : Below w.heap.size w W) (la : sa.length = n + 1) (va : val sa = a) (ra : Row wa wb.heap.size sa) (ba : Below wb.heap.size wb wa)
    (lb : sb.length = m + 1) (vb : val sb = b) (rb : Row wb W.heap.size sb) (bb : Below W.heap.size W wb) : Two w n m a b wb.heap.size W.heap.size sa sb wa :=
  ⟨la, lb, va, vb, ra, rb.next ba, Nat.ne_of_gt rb.lt, Nat.le_trans h0.size bb.size, h0.size, below_step (below_step h0 bb) ba⟩
theorem Two.drew {w : World} {n m a b gR gV : Nat} {S vs : List Nat} {wx : World} (h : Two w n m a b gR gV S vs wx) : Two w n m a b gR gV S vs wx.drew :=
  ⟨h.sl, h.vl, h.sv, h.vv, h.r1.drew, h.r2.drew, h.ne, h.g1, h.g2, h.bl.drew⟩
/-- What is in the loop of divLong. -/
structure Dlg (w : World) (n m d gR gV gQ : Nat) (S vs : List Nat) (i : Nat) (wr : World) : Prop where
  qs : ∃ ws qs, ws.length = m ∧ val ws < val (vs.take m) ∧ qs.length + i = d ∧ val (S.drop i) = val qs * val (vs.take m) + val ws ∧ Row wr gR (S.take i ++ ws ++ List.replicate (n + 1 - i - m) 0) ∧ Row wr gQ (List.replicate i 0 ++ qs)
  rv : Row wr gV vs
  bl : Below w.heap.size w wr

theorem win_parts (S ws : List Nat) (i m r : Nat) (hi : i < S.length) (hw : ws.length = m) :
    let zs := S.take (i + 1) ++ ws ++ List.replicate r 0
    zs.take i = S.take i ∧ (zs.drop (i + 1)).take m = ws ∧ (zs.drop i).take (m + 1) = S[i] :: ws ∧ zs.drop (i + (m + 1)) = List.replicate r 0 := by
  intro zs
  have e0 : zs = S.take i ++ (S[i] :: (ws ++ List.replicate r 0)) := by
    show S.take (i + 1) ++ ws ++ List.replicate r 0 = _
    rw [take_snoc S i hi, List.append_assoc, List.append_assoc]; rfl
  have l0 : (S.take i).length = i := by simp; omega
  have d0 : zs.drop i = S[i] :: (ws ++ List.replicate r 0) := by
    rw [e0, List.drop_append, List.drop_of_length_le (by omega), List.nil_append, l0, Nat.sub_self, List.drop_zero]
  have d1 : zs.drop (i + 1) = ws ++ List.replicate r 0 := by
    rw [← List.drop_drop, d0]; rfl
  refine ⟨?_, ?_, ?_, ?_⟩
  · rw [e0, List.take_append_of_le_length (by omega), List.take_of_length_le (by omega)]
  · rw [d1, List.take_append_of_le_length (by omega), List.take_of_length_le (by omega)]
  · rw [d0, List.take_succ_cons, List.take_append_of_le_length (by omega), List.take_of_length_le (by omega)]
  · rw [show i + (m + 1) = i + 1 + m by omega, ← List.drop_drop, d1, List.drop_append, List.drop_of_length_le (by omega), List.nil_append, hw, Nat.sub_self, List.drop_zero]
theorem Dlg.step {w : World} {n m d gR gV gQ : Nat} {S vs : List Nat} {i : Nat} {wr : World} (h : Dlg w n m d gR gV gQ S vs (i + 1) wr) (hd : d + m = n + 1) (hi : i < d) (sl : S.length = n + 1) (lS : Lo S) (hm : 0 < m)
    (vlt : val (vs.take m) < B ^ m) (vpos : 0 < val (vs.take m)) (n1 : gR ≠ gV) (n2 : gQ ≠ gR) (n3 : gQ ≠ gV) (w1 : w.heap.size ≤ gR) (w2 : w.heap.size ≤ gQ) :
    ∃ zs, zs.length = n + 1 ∧ Row wr gR zs ∧ val ((zs.drop (i + 1)).take m) < val (vs.take m) ∧
      ∀ e w2, RetO wr gR i zs m (val ((zs.drop i).take (m + 1))) (val (vs.take m)) e w2 → ∃ q, q < 4294967296 ∧ e = .returned (lv q) ∧ w2.cell? ⟨gQ, i, none⟩ = some (lv 0) ∧ w2.frozen? ⟨gQ, i, none⟩ = false ∧
        Dlg w n m d gR gV gQ S vs i (w2.setCell ⟨gQ, i, none⟩ (lv q)) := by
  obtain ⟨ws, qs, wl, wlt, ql, hv, rR, rQ⟩ := h.qs
  obtain ⟨p1, p2, p3, p4⟩ := win_parts S ws i m (n + 1 - (i + 1) - m) (by omega) wl
  have hS := lS.at_ i (by omega)
  refine ⟨_, by simp; omega, rR, by rw [p2]; exact wlt, ?_⟩
  intro e w3 he
  obtain ⟨ss, rfl, ssl, ssv, rR2, tt⟩ := he
  rw [p1, p4] at rR2
  rw [p3] at ssv ⊢
  have U1 : val (S[i] :: ws) < 4294967296 * val (vs.take m) := by
    rw [val_cons, B_eq]
    have : 4294967296 * (val ws + 1) ≤ 4294967296 * val (vs.take m) := Nat.mul_le_mul_left _ wlt
    omega
  have ql2 : val (S[i] :: ws) / val (vs.take m) < 4294967296 := (Nat.div_lt_iff_lt_mul vpos).2 U1
  have rl : val ss < val (vs.take m) := by rw [ssv]; exact Nat.mod_lt _ vpos
  obtain ⟨ws2, es, wl2, wv2⟩ := last_zero ssl (Nat.lt_trans rl vlt)
  have rQ2 := tt.row rQ n2
  have eq0 : List.replicate (i + 1) 0 ++ qs = List.replicate i 0 ++ (0 :: qs) := by
    rw [List.replicate_succ', List.append_assoc]; rfl
  rw [eq0] at rQ2
  refine ⟨_, ql2, rfl, rQ2.cell' ?_, rQ2.melt _, ⟨ws2, (val (S[i] :: ws) / val (vs.take m)) :: qs, wl2, by rw [wv2]; exact rl, by simp; omega, ?_, ?_, ?_⟩, (tt.row h.rv n1.symm).far (p := ⟨gQ, i, none⟩) n3.symm _, (h.bl.trans (tt.below w1)).setCell w2 _⟩
  · rw [List.getElem?_append_right (by simp)]; simp
  · rw [val_drop S i (by omega), val_cons, wv2, ssv]
    exact dlg_step hv (by rw [val_cons])
  · have er : S.take i ++ ws2 ++ List.replicate (n + 1 - i - m) 0 = S.take i ++ ss ++ List.replicate (n + 1 - (i + 1) - m) 0 := by
      rw [es, show n + 1 - i - m = (n + 1 - (i + 1) - m) + 1 by omega, List.replicate_succ]
      simp
    rw [er]
    exact rR2.far (p := ⟨gQ, i, none⟩) n2.symm _
  · have := rQ2.set_ i (val (S[i] :: ws) / val (vs.take m)) ql2
    rwa [List.set_append_right _ _ (by simp), List.length_replicate, Nat.sub_self, List.set_cons_zero] at this

set_option maxHeartbeats 4000000 in
set_option maxRecDepth 100000 in
theorem divLong_any {A A' : Option Addr} {n c m c' a b : Nat} {w : World} (ha : Lim w A n c (limbs a)) (hb : Lim w A' m c' (limbs b)) (la : ln a ≤ 64) (hm : 2 ≤ m) (hmn : m ≤ n) :
    Calls Tryd.prog 89 #[.slice A n c, .slice A' m c'] w fun e w' => RetD (a / b) (a % b) w e w' := by
  have hla := ha.len; have hlb := hb.len
  rw [limbs_length] at hla hlb
  obtain ⟨t, rfl⟩ : ∃ t, m = t + 1 := ⟨m - 1, by omega⟩
  have b0 : b ≠ 0 := by rintro rfl; rw [ln_zero] at hlb; omega
  have ht : t + 1 = (limbs b).length := by rw [limbs_length]; omega
  obtain ⟨ad, rfl⟩ := hb.some_ (by omega)
  have c1 := hb.cell t (by omega)
  have hx := (lo_limbs b).at_ t (by omega)
  have hx0 := last_ne_zero ht
  have hbl := bl_le (n := (limbs b)[t]'(by omega)) (k := 32) (by omega)
  have hbp := bl_pos hx0
  obtain ⟨s, hs⟩ : ∃ s, bl ((limbs b)[t]'(by omega)) + s = 32 := ⟨32 - bl ((limbs b)[t]'(by omega)), by omega⟩
  have hs31 : s < 32 := by omega
  have FIT := shift_fits ht hs
  have GE := shift_ge (k := s) b0 (show t + 1 = ln b by omega)
  have GEl : Hid (B ^ t * 2 ^ s ≤ b * 2 ^ s) := by
    have := le_of_ln b0
    rw [hlb, Nat.add_sub_cancel] at this
    exact Nat.mul_le_mul_right _ this
  have KL := Lib.hid (Tryd.bits_LeadingZeros32 ((limbs b)[t]'(by omega) : Int))
  have EB : Hid (32 - (Lib.bitLen ((limbs b)[t]'(by omega) : Int).toNat : Int) = (s : Int)) := by unfold Hid; rw [Int.toNat_natCast, bitLen_bl _ (by omega)]; omega
  generalize (limbs b)[t]'(by omega) = x at *
  have KA : Hid (∀ W : World, Below w.heap.size w W → Calls Tryd.prog 97 #[.slice A n c, .int .i64 s] W fun e w' => RetS n (a * 2 ^ s) W e w') := by
    intro W hW
    have := shifted_any (s := s) (ha.next hW) (by omega) hs31
    rwa [val_limbs] at this
  have KB : Hid (∀ W : World, Below w.heap.size w W → Calls Tryd.prog 97 #[.slice (some ad) (t + 1) c', .int .i64 s] W fun e w' => RetS (t + 1) (b * 2 ^ s) W e w') := by
    intro W hW
    have := shifted_any (s := s) (hb.next hW) (by omega) hs31
    rwa [val_limbs] at this
  have lta : a < B ^ n := by rw [← hla]; exact lt_ln a
  have LTA := Lib.hid lta
  have FITh := Lib.hid FIT; have GEh := Lib.hid GE
  have cb := hb.cap
  have hn64 : n ≤ 64 := by omega
  have B0 := Lib.hid b0
  clear ha hb hla hlb FIT GE hbl hbp hs lta ht la b0
  go_enter Tryd.func89, Tryd.ntmps89
  go_wp2_with fail
  refine (KL.out _ (by omega) (by omega)).mono ?_
  rintro e w' ⟨rfl, rfl⟩
  rw [EB.out]
  go_upto_region 2 with fail
  go_cut [7, 8] (fun s7 s8 wx => ∃ gR gV S vs, s7 = .slice (some ⟨gR, 0, none⟩) (n + 1) (n + 1) ∧ s8 = .slice (some ⟨gV, 0, none⟩) (t + 1) (t + 1 + 1) ∧ Two w' n (t + 1) (a * 2 ^ s) (b * 2 ^ s) gR gV S vs wx)
  case first =>
    go_region_with (go_at_call 97; first
      | ((with_reducible refine (KA.out _ ?_).mono ?_); rotate_left; rintro e wa ⟨sa, rfl, la, va, ra, ba⟩; rotate_left; first | exact Below.refl _ _ | exact (Below.refl _ _).drew | exact ⟨bb.os, bb.tape, bb.output, bb.size, bb.block⟩)
      | ((with_reducible refine (KB.out _ ?_).mono ?_); rotate_left; rintro e wb ⟨sb, rfl, lb, vb, rb, bb⟩; rotate_left; first | exact Below.refl _ _ | exact (Below.refl _ _).drew | exact ⟨ba.os, ba.tape, ba.output, ba.size, ba.block⟩))
    all_goals go_wp2_with fail
    all_goals go_meet
    all_goals go_light
    all_goals exact ⟨_, _, sa, sb, rfl, rfl, Two.ab (W := World.drew w') ((Below.refl _ _).drew) la va ra ba lb vb rb bb⟩
  case rest =>
    obtain ⟨gR, gV, S, vs, rfl, rfl, T⟩ := hcut
    obtain ⟨d, hd⟩ : ∃ d, d + (t + 1) = n + 1 := ⟨n - t, by omega⟩
    have ed : (n : Int) - ((t : Int) + 1) + 1 = (d : Int) := by omega
    have ed2 : (n : Int) - (t : Int) - 1 + 1 = (d : Int) := by omega
    have hmk := make_u32 d (by omega)
    have lv0 := T.r2.lo
    have VL := last_zero T.vl (by rw [T.vv]; exact FITh.out)
    have ev : val (vs.take (t + 1)) = b * 2 ^ s := by
      obtain ⟨ws, e1, e2, e3⟩ := VL
      rw [e1, List.take_append_of_le_length (by omega), List.take_of_length_le (by omega), e3, T.vv]
    have D0 : Dlg w' n (t + 1) d gR gV wc.heap.size S vs d (wc.alloc (zrow d)) := by
      refine ⟨⟨S.drop d, [], by simp [T.sl]; omega, ?_, by simp, by rw [val_nil, Nat.zero_mul, Nat.zero_add], ?_, ?_⟩, T.r2.alloc _, T.bl.alloc T.bl.size _⟩
      · rw [ev]
        exact start_lt (m := t + 1) (p := 2 ^ s) T.sv LTA.out hd T.sl (by omega) (Nat.two_pow_pos s) (by rw [Nat.add_sub_cancel]; exact GEl.out)
      · have e0 : n + 1 - d - (t + 1) = 0 := by omega
        rw [List.take_append_drop, e0, List.replicate_zero, List.append_nil]
        exact T.r1.alloc _
      · rw [List.append_nil]
        exact Row.zeros wc d
    have EV := Lib.hid ev
    have g1 := T.g1; have g2 := T.g2; have gne := T.ne
    have gq1 := T.r1.lt; have gq2 := T.r2.lt
    have SL := Lib.hid T.sl; have VLn := Lib.hid T.vl; have SV := Lib.hid T.sv
    have LS := Lib.hid T.r1.lo; have LV := Lib.hid lv0
    have gq0 : w'.heap.size ≤ wc.heap.size := T.bl.size
    clear T VL ev lv0
    go_wp2_with fail
    generalize wc.alloc (zrow d) = wa at *
    generalize wc.heap.size = gQ at *
    go_loopg [10] d (fun q s10 wr => q ≤ d ∧ s10 = .int .i64 ((q : Int) - 1) ∧ Dlg w' n (t + 1) d gR gV gQ S vs q wr)
    case atStart => exact ⟨Nat.le_refl _, rfl, D0⟩
    case round =>
      clear D0
      obtain ⟨hq, rfl, D⟩ := hrel
      have vpos : 0 < val (vs.take (t + 1)) := by rw [EV.out]; exact Nat.mul_pos (Nat.pos_of_ne_zero B0.out) (Nat.two_pow_pos s)
      by_cases hz : gk = 0
      · subst hz
        have ek : ((0 : Nat) : Int) - 1 = -1 := by omega
        rw [ek]
        clear ek
        obtain ⟨ws, qs, wl, wlt, ql, hv, rR, rQ⟩ := D.qs
        rw [List.drop_zero, SV.out, EV.out] at hv
        rw [EV.out] at wlt
        obtain ⟨eq1, eq2⟩ := div_scaled (Nat.two_pow_pos s) (Nat.pos_of_ne_zero B0.out) hv wlt
        have TQ : Hid (∀ W : World, Below wr.heap.size wr W → Calls Tryd.prog 70 #[.slice (some ⟨gQ, 0, none⟩) d d] W fun e w' => ∃ A' n' c', e = .returned (.slice A' n' c') ∧ Lim W A' n' c' (limbs (a / b)) ∧ W = w') := by
          intro W hW
          have L := (rQ.next hW).lim (o := 0) (n := d) (c := d) (by simp; omega) (Nat.le_refl _) (by omega)
          rw [List.drop_zero, List.replicate_zero, List.nil_append, List.take_of_length_le (by omega)] at L
          have := trim_any L
          rwa [eq1] at this
        have TS : Hid (∀ W : World, Below wr.heap.size wr W → Calls Tryd.prog 99 #[.slice (some ⟨gR, 0, none⟩) (t + 1) (n + 1), .int .i64 s] W fun e w' => RetN (a % b) W e w') := by
          intro W hW
          have L := (rR.next hW).lim (o := 0) (n := t + 1) (c := n + 1) (by simp; omega) (by omega) (by omega)
          rw [List.drop_zero, List.take_zero, List.nil_append, List.take_append_of_le_length (by omega), List.take_of_length_le (by omega)] at L
          have := shiftedBack_any L (by omega) hs31
          rwa [eq2] at this
        have BL := D.bl
        have i2 : (t : Int) + 1 ≤ (n : Int) + 1 := by omega
        have i0 : (0 : Int) ≤ (t : Int) + 1 := by omega
        clear D wl wlt ql hv rR rQ eq1 eq2
        go_wp2_with fail
        go_region_with (first
          | (go_at_call 70; ((with_reducible refine (TQ.out _ ?_).mono ?_); rotate_left; rintro e wa ⟨Aq, nq, cq, rfl, Lq, rfl⟩; rotate_left; first | exact Below.refl _ _ | exact (Below.refl _ _).drew | exact ⟨bb.os, bb.tape, bb.output, bb.size, bb.block⟩))
          | (go_at_call 99; ((with_reducible refine (TS.out _ ?_).mono ?_); rotate_left; rintro e wb ⟨Ar, nr, cr, rfl, Lr, bb⟩; rotate_left; first | exact Below.refl _ _ | exact (Below.refl _ _).drew)))
        all_goals go_wp2_with fail
        all_goals go_ret2
        all_goals exact ⟨_, _, _, _, _, _, rfl, Lq.next bb, Lr, below_step BL.drew bb⟩
      · obtain ⟨k, rfl⟩ : ∃ k, gk = k + 1 := ⟨gk - 1, by omega⟩
        have ek : ((k + 1 : Nat) : Int) - 1 = (k : Int) := by omega
        rw [ek]
        obtain ⟨zs, zl, rz, zlt, NX⟩ := D.step hd (by omega) SL.out LS.out (by omega) (by rw [EV.out]; exact FITh.out) vpos gne (by omega) (by omega) g1 gq0
        have NX := Lib.hid NX
        have lv := D.rv.lim (o := 0) (n := t + 1) (c := t + 1 + 1) (by rw [VLn.out]; omega) (by omega) (by omega)
        rw [List.drop_zero] at lv
        have tn : ∀ h : t + 1 - 1 < (vs.take (t + 1)).length, (vs.take (t + 1))[t + 1 - 1] ≠ 0 := by
          intro h
          have := top_ne (vs := vs.take (t + 1)) (m := t) (by simp [VLn.out]) (LV.out.take _) (by rw [EV.out]; exact GEh.out)
          simpa using this
        have KT := Lib.hid (fun c2 (hc2 : t + 1 + 1 ≤ c2) => takeOut_any (o := k) (c := c2) (cb := t + 1 + 1) rz lv (by rw [zl]; omega) (by omega) (by omega) (fun ad' e _ => by injection e with e; subst e; exact gne.symm) vpos tn zlt hc2)
        have i1 : (k : Int) < d := by omega
        have i0 : (0 : Int) ≤ k := by omega
        have i2 : (k : Int) + ((t : Int) + 1) + 1 ≤ (n : Int) + 1 := by omega
        have i3 : (k : Int) ≤ (k : Int) + ((t : Int) + 1) + 1 := by omega
        have i4 : ¬ n + 1 = k := by omega
        clear D ek zlt lv tn rz
        go_wp2_with fail
        have es : k + (t + 1) + 1 - k = t + 1 + 1 := by omega
        rw [es]
        refine (KT.out _ (by omega)).mono ?_
        intro e w2 he
        obtain ⟨q, qb, rfl, cq, fq, D2⟩ := NX.out e w2 he
        have D2 := Lib.hid D2
        clear he
        go_wp2_with fail
        go_roundg k
        case measure => omega
        case rel =>
          go_light
          exact ⟨by omega, rfl, D2.out⟩
end Go.Proofs.YthollkngfibgaaaDoor
namespace Go.Proofs.YthollkngfibgaaaDoor
open Go.RowKit
set_option linter.unusedVariables false
set_option linter.unusedSimpArgs false

/-- A row that the call owns is a slice of limbs. -/
theorem own_lim {w : World} {base n : Nat} {v : Value} {xs : List Nat} (h : w.ownsRow base 49 1 v n (xs.map lv)) (lo : Lo xs) : ∃ A c, v = .slice A n c ∧ Lim w A n c xs := by
  have hl : xs.length = n := by have := h.1; simpa using this
  rcases h.2 with ⟨rfl, rfl⟩ | ⟨g, cap, cur, rfl, _, hb, h1, h2, h3, h4⟩
  · have e := List.eq_nil_of_length_eq_zero hl
    subst e
    exact ⟨none, 0, rfl, Lim.none_ _ _ _ (by omega)⟩
  · refine ⟨_, cap, rfl, hl, h1, h2, fun j hj => ⟨_, rfl, ?_⟩, lo⟩
    rw [add_lit, Nat.zero_add]
    have e : cur[j]? = some (lv xs[j]) := by
      have : (cur.toList.take (n * 1))[j]? = some (lv xs[j]) := by rw [h4]; simp [hj]
      rw [List.getElem?_take, if_pos (by omega)] at this
      simpa using this
    simp [World.cell?, hb, e]

set_option maxHeartbeats 2000000 in
set_option maxRecDepth 100000 in
theorem clone_any {A : Option Addr} {n c : Nat} {xs : List Nat} {w : World} (h : Lim w A n c xs) (hn : n ≤ 1000) : Calls Tryd.prog 77 #[.slice A n c] w fun e w' => ∃ A' n' c', e = .returned (.slice A' n' c') ∧ Lim w' A' n' c' xs ∧ Below w.heap.size w w' := by
  have q22 : ∀ (w : World) (a : Option Addr) (n c n' c' : Nat), (binOp .eql 28 (.slice a n c) (.slice none n' c')).run Tryd.prog w = .ok (.bool a.isNone) w := fun w a n c n' c' => Lib.run_eql_slice_nil w _ _ a n c n' c' Tryd.underlying28
  cases A with
  | none =>
    have H := Lib.hid h
    have h0 : n = 0 := by
      rcases Nat.eq_zero_or_pos n with k | k
      · exact k
      · obtain ⟨ad, e⟩ := h.some_ k; cases e
    subst h0
    have e := List.eq_nil_of_length_eq_zero h.len
    subst e
    clear h
    go_enter Tryd.func77, Tryd.ntmps77
    go_wp2
    go_ret
    exact ⟨none, 0, 0, rfl, Lim.none_ _ _ _ (by omega), Below.refl _ _⟩
  | some ad =>
    obtain ⟨i0, hi, hz0, hz1, hz2⟩ := info_parts info_u32
    have H := Lib.hid h
    have hl := h.len
    have lo := Lib.hid h.lo
    clear h
    go_enter Tryd.func77, Tryd.ntmps77
    go_wp2_with (at_builtin; refine wpList_append_own _ rfl _ _ 28 rfl w.heap.size 49 i0 (.int .u32 0) 1 4 Tryd.underlying28 hi hz0 hz1 hz2 rfl (by decide) _ _ _ rfl (World.ownsRow_made w #[] 0 (Nat.le_refl _) (Nat.zero_le _) rfl) ad n c (xs.map lv) rfl ?qc1 ?qc2 ?qc3 ?qc4 ?qc5 ?qc6 ?_)
    case qc1 => simp; omega
    case qc2 =>
      intro j u hj
      have hj' : j < xs.length := by have := (List.getElem?_eq_some_iff.1 hj).1; simpa using this
      have := (H.out.alloc (.cells #[] 49)).cell j hj'
      rw [List.getElem?_map, List.getElem?_eq_getElem hj'] at hj
      simp only [Option.map_some, Option.some.injEq] at hj
      rw [← hj]
      exact this
    case qc3 => intro u hu; obtain ⟨x, _, rfl⟩ := List.mem_map.1 hu; rfl
    case qc4 => unfold maxLen; omega
    case qc5 => omega
    case qc6 => simp
    intro v' w1 hown hgrow hnil
    have BL : Below w.heap.size w w1 := ((Below.refl _ w).alloc (Nat.le_refl _) _).grown hgrow (by simp) (by intro k hk; simp [Value.ownBlock] at hk; omega)
    have hown2 : w1.ownsRow w.heap.size 49 1 v' n (xs.map lv) := by simpa using hown
    obtain ⟨A2, c2, rfl, L2⟩ := own_lim hown2 lo.out
    clear hown hgrow hnil hown2
    go_wp2
    go_ret
    exact ⟨_, _, _, rfl, L2, BL⟩

set_option maxHeartbeats 1000000 in
set_option maxRecDepth 100000 in
theorem divide_any {A A' : Option Addr} {n c n' c' a b : Nat} {w : World} (ha : Lim w A n c (limbs a)) (hb : Lim w A' n' c' (limbs b)) (la : ln a ≤ 64) (b0 : b ≠ 0) :
    Calls Tryd.prog 76 #[.slice A n c, .slice A' n' c'] w fun e w' => RetD (a / b) (a % b) w e w' := by
  have hl := ha.len; have hl' := hb.len
  rw [limbs_length] at hl hl'
  by_cases lt : n < n'
  · have il : (n : Int) < n' := by omega
    have ab : a < b := lt_of_ln_lt (by omega)
    rw [Nat.div_eq_of_lt ab, Nat.mod_eq_of_lt ab]
    have KC := Lib.hid (clone_any ha (by omega))
    clear ha hb la lt hl hl' ab
    go_enter Tryd.func76, Tryd.ntmps76
    go_wp2_with fail
    refine KC.out.mono ?_
    rintro e w1 ⟨A1, n1, c1, rfl, L1, B1⟩
    have KT := Lib.hid (trim_any L1)
    rw [val_limbs] at KT
    clear L1
    go_wp2_with fail
    refine KT.out.mono ?_
    rintro e w2 ⟨A2, n2, c2, rfl, L2, rfl⟩
    go_wp2_with fail
    go_ret2
    exact ⟨_, _, _, _, _, _, rfl, lim_zero _ _ _ (by omega), L2, B1⟩
  · have il : ¬ (n : Int) < n' := by omega
    by_cases h1 : n' = 1
    · subst h1
      have e1 : ((1 : Int) == 1) = true := by decide
      obtain ⟨ad, rfl⟩ := hb.some_ (by omega)
      have hlt : 0 < (limbs b).length := by rw [limbs_length]; omega
      have hc := hb.cell 0 hlt
      have hx := (lo_limbs b).at_ 0 hlt
      have eb : (limbs b)[0] = b := by
        have e := val_take_succ (limbs b) 0 hlt
        rw [List.take_of_length_le (by rw [limbs_length]; omega), val_limbs, List.take_zero, val_nil, Nat.pow_zero, Nat.one_mul, Nat.zero_add] at e
        exact e.symm
      rw [eb] at hc hx
      have ha0 : ad.add 0 = ad := by unfold Addr.add; rfl
      rw [ha0] at hc
      have KD := Lib.hid (divShort_any ha (b := b) (by omega) (Nat.pos_of_ne_zero b0) hx)
      rw [val_limbs] at KD
      have hr : a % b < b := Nat.mod_lt _ (Nat.pos_of_ne_zero b0)
      generalize a % b = r at *
      clear ha hb la lt hl hl' eb ha0
      go_enter Tryd.func76, Tryd.ntmps76
      go_wp2_with fail
      refine KD.out.mono ?_
      rintro e w1 ⟨A1, n1, c1, rfl, L1, B1⟩
      have L1 := Lib.hid L1
      go_wp2_with fail
      refine (of_any r (by omega) _).mono ?_
      rintro e w2 ⟨A2, n2, c2, rfl, L2, B2⟩
      go_wp2_with fail
      go_ret2
      exact ⟨_, _, _, _, _, _, rfl, L1.out.next B2, L2, below_step B1 B2⟩
    · have e1 : ((n' : Int) == 1) = false := by simp; omega
      have n0 : 0 < n' := by rw [← hl']; exact ln_pos b0
      have KD := Lib.hid (divLong_any ha hb la (by omega) (by omega))
      clear ha hb la lt hl hl'
      go_enter Tryd.func76, Tryd.ntmps76
      go_wp2_with fail
      refine KD.out.mono ?_
      rintro e w1 ⟨A1, n1, c1, A2, n2, c2, rfl, L1, L2, B1⟩
      have L1 := Lib.hid L1
      have L2 := Lib.hid L2
      go_wp2_with fail
      go_ret2
      exact ⟨_, _, _, _, _, _, rfl, L1.out, L2.out, B1⟩

/-- Two naturals, and an error. -/
def RetF (q r : Nat) (k : Int) (w : World) (e : Ending) (w' : World) : Prop := ∃ A n c A' n' c', e = .returned (.tuple #[.slice A n c, .slice A' n' c', .int .i64 k]) ∧ Lim w' A n c (limbs q) ∧ Lim w' A' n' c' (limbs r) ∧ Below w.heap.size w w'
set_option maxRecDepth 100000 in
theorem div_any {A A' : Option Addr} {n c n' c' a b : Nat} {w : World} (ha : Lim w A n c (limbs a)) (hb : Lim w A' n' c' (limbs b)) (la : ln a ≤ 64) (lb : ln b ≤ 64) (b0 : b ≠ 0) :
    Calls Tryd.prog 69 #[.slice A n c, .slice A' n' c'] w fun e w' => RetF (a / b) (a % b) 0 w e w' := by
  have RA := Lib.hid (right_yes ha la); have RB := Lib.hid (right_yes hb lb)
  have K := Lib.hid (divide_any ha hb la b0)
  have h0 : ((n' : Int) == 0) = false := by
    have := hb.len
    rw [limbs_length] at this
    have := ln_pos b0
    simp; omega
  clear ha hb la lb
  go_enter Tryd.func69, Tryd.ntmps69
  go_wp2_with fail
  refine RA.out.mono ?_
  rintro e w' ⟨rfl, rfl⟩
  go_wp2_with fail
  refine RB.out.mono ?_
  rintro e w' ⟨rfl, rfl⟩
  go_wp2_with fail
  refine K.out.mono ?_
  rintro e w1 ⟨A1, n1, c1, A2, n2, c2, rfl, L1, L2, B1⟩
  have L1 := Lib.hid L1
  have L2 := Lib.hid L2
  go_wp2_with fail
  go_ret3
  exact ⟨_, _, _, _, _, _, rfl, L1.out, L2.out, B1⟩
set_option maxRecDepth 100000 in
theorem div_zero {A A' : Option Addr} {n c c' a : Nat} {w : World} (ha : Lim w A n c (limbs a)) (hb : Lim w A' 0 c' []) (la : ln a ≤ 64) :
    Calls Tryd.prog 69 #[.slice A n c, .slice A' 0 c'] w fun e w' => e = .returned (.tuple #[.slice none 0 0, .slice none 0 0, .int .i64 7]) ∧ w = w' := by
  have RA := Lib.hid (right_yes ha la); have RB := Lib.hid (right_yes (a := 0) (by rw [limbs_zero]; exact hb) (by rw [ln_zero]; omega))
  clear ha hb la
  go_enter Tryd.func69, Tryd.ntmps69
  go_wp2_with fail
  refine RA.out.mono ?_
  rintro e w' ⟨rfl, rfl⟩
  go_wp2_with fail
  refine RB.out.mono ?_
  rintro e w' ⟨rfl, rfl⟩
  go_wp2_with fail
  go_ret3
  exact ⟨rfl, rfl⟩
set_option maxRecDepth 100000 in
theorem div_none {A A' : Option Addr} {n c n' c' : Nat} {xs ys : List Nat} {w : World} (ha : Lim w A n c xs) (hb : Lim w A' n' c' ys) (h : NoTwo xs ys) :
    Calls Tryd.prog 69 #[.slice A n c, .slice A' n' c'] w fun e w' => e = .returned (.tuple #[.slice none 0 0, .slice none 0 0, .int .i64 1]) ∧ w = w' := by
  rcases rights_no ha hb h with ⟨_, RA, RB⟩ | RA
  · have RA := Lib.hid RA; have RB := Lib.hid RB
    clear ha hb h
    go_enter Tryd.func69, Tryd.ntmps69
    go_wp2_with fail
    refine (RA.out _ rfl).mono ?_
    rintro e w' ⟨rfl, rfl⟩
    go_wp2_with fail
    refine (RB.out _ rfl).mono ?_
    rintro e w' ⟨rfl, rfl⟩
    go_wp2_with fail
    go_ret3
    exact ⟨rfl, rfl⟩
  · have RA := Lib.hid RA
    clear ha hb h
    go_enter Tryd.func69, Tryd.ntmps69
    go_wp2_with fail
    refine (RA.out _ rfl).mono ?_
    rintro e w' ⟨rfl, rfl⟩
    go_wp2_with fail
    go_ret3
    exact ⟨rfl, rfl⟩
end Go.Proofs.YthollkngfibgaaaDoor
namespace Go.Proofs.YthollkngfibgaaaDoor
open Go.RowKit
set_option linter.unusedVariables false
set_option linter.unusedSimpArgs false

theorem or_words (x y : Nat) (hx : x < 4294967296) (hy : y < 4294967296) : bits BinOp.or IntKind.u64 (x : Int) ((y : Int) * 4294967296) = ((x + 4294967296 * y : Nat) : Int) := by
  have e : (y : Int) * 4294967296 = ((y * 4294967296 : Nat) : Int) := by omega
  rw [e, u64_or_nat _ _ (by omega) (by omega), Nat.or_comm]
  have := or_apart y x 32 (by omega)
  rw [show (2 : Nat) ^ 32 = 4294967296 by decide] at this
  omega
theorem or_zero_left (x : Nat) (hx : x < 4294967296) : bits BinOp.or IntKind.u64 0 (x : Int) = (x : Int) := by
  have := u64_or_nat 0 x (by omega) (by omega)
  rw [Nat.zero_or] at this
  exact this
set_option maxHeartbeats 1000000 in
set_option maxRecDepth 100000 in
theorem word_any {A : Option Addr} {n c : Nat} {xs : List Nat} {w : World} (h : Lim w A n c xs) (hn : n ≤ 2) : Calls Tryd.prog 79 #[.slice A n c] w fun e w' => e = .returned (.int .u64 (val xs)) ∧ w = w' := by
  have hl := h.len
  rcases (by omega : n = 0 ∨ n = 1 ∨ n = 2) with rfl | rfl | rfl
  · have e := List.eq_nil_of_length_eq_zero hl
    subst e
    clear h hl hn
    go_enter Tryd.func79, Tryd.ntmps79
    go_wp2_with fail
    go_rounds 1
    go_ret
    exact ⟨rfl, rfl⟩
  · obtain ⟨ad, rfl⟩ := h.some_ (by omega)
    match xs, hl with
    | [x], _ =>
      have c0 := h.cell 0 (by simp)
      have hx := h.lo.head
      simp only [List.getElem_cons_zero] at c0
      have a0 : ad.add 0 = ad := by unfold Addr.add; rfl
      rw [a0] at c0
      have E1 := Lib.hid (or_zero_left x hx)
      have E2 : Hid (val [x] = x) := by unfold Hid; rw [val_cons, val_nil, Nat.mul_zero, Nat.add_zero]
      clear h hl hn a0
      go_enter Tryd.func79, Tryd.ntmps79
      go_wp2_with fail
      go_rounds 2
      rw [E1.out]
      go_ret
      exact ⟨by rw [E2.out]; rfl, rfl⟩
  · obtain ⟨ad, rfl⟩ := h.some_ (by omega)
    match xs, hl with
    | [x, y], _ =>
      have c0 := h.cell 0 (by simp)
      have c1 := h.cell 1 (by simp)
      have hx := h.lo.head
      have hy := h.lo.tail.head
      simp only [List.getElem_cons_zero, List.getElem_cons_succ] at c0 c1
      have a0 : ad.add 0 = ad := by unfold Addr.add; rfl
      rw [a0] at c0
      have E1 := Lib.hid (or_zero_left x hx)
      have E3 := Lib.hid (or_words x y hx hy)
      have E2 : Hid (val [x, y] = x + 4294967296 * y) := by unfold Hid; rw [val_cons, val_cons, val_nil, Nat.mul_zero, Nat.add_zero, B_eq]
      have c2 : w.cell? ⟨ad.block, ad.off + 1, none⟩ = some (lv y) := c1
      clear h hl hn a0 c1
      go_enter Tryd.func79, Tryd.ntmps79
      go_wp2_with fail
      go_rounds 3
      rw [E1.out, E3.out]
      go_ret
      exact ⟨by rw [E2.out]; rfl, rfl⟩

set_option maxHeartbeats 1000000 in
set_option maxRecDepth 100000 in
theorem gcdWords_any (a b : Nat) (ha : a < 18446744073709551616) (hb : b < 18446744073709551616) (w : World) : Calls Tryd.prog 78 #[.int .u64 a, .int .u64 b] w fun e w' => e = .returned (.int .u64 (Nat.gcd a b)) ∧ ∃ m, w' = w.drewN m := by
  go_enter Tryd.func78, Tryd.ntmps78
  go_wp2_with fail
  go_loopg [0, 1] b (fun y s0 s1 wr => ∃ (x m : Nat), x < 18446744073709551616 ∧ y < 18446744073709551616 ∧ s0 = .int .u64 (x : Int) ∧ s1 = .int .u64 (y : Int) ∧ Hid (Nat.gcd x y = Nat.gcd a b) ∧ wr = w.drewN m)
  case atStart => exact ⟨a, 0, ha, hb, rfl, rfl, rfl, rfl⟩
  case round =>
    obtain ⟨x, m, hx, hy, rfl, rfl, hg, rfl⟩ := hrel
    by_cases hz : gk = 0
    · subst hz
      have E : Hid (Nat.gcd a b = x) := by unfold Hid; rw [← hg.out, Nat.gcd_zero_right]
      clear hg
      go_wp2_with fail
      go_ret
      exact ⟨by rw [E.out]; rfl, _, rfl⟩
    · have h1 : ((gk : Int) != 0) = true := by simp; omega
      have h2 : ((gk : Int) == 0) = false := by simpa using hz
      have lt : x % gk < gk := Nat.mod_lt _ (by omega)
      have G : Hid (Nat.gcd gk (x % gk) = Nat.gcd a b) := by
        unfold Hid
        rw [← hg.out, Nat.gcd_comm gk, ← Nat.gcd_rec gk x, Nat.gcd_comm]
      have E : Hid ((x : Int) % (gk : Int) = ((x % gk : Nat) : Int)) := (Int.natCast_emod x gk).symm
      generalize x % gk = r at *
      clear hg
      go_wp2_with fail
      go_quiet (fail)
      go_wp2_with fail
      go_roundg r
      case measure => exact lt
      case rel =>
        go_light
        rw [E.out]
        exact ⟨gk, m + nq, hy, by omega, rfl, rfl, G, World.drewN_drewN _ _ _⟩

/-- Two naturals that lie there. -/
structure Both (w : World) (x y : Nat) (s0 s1 : Value) (wr : World) : Prop where
  ex : ∃ A n c A' n' c', s0 = .slice A n c ∧ s1 = .slice A' n' c' ∧ Lim wr A n c (limbs x) ∧ Lim wr A' n' c' (limbs y)
  lx : ln x ≤ 64
  ly : ln y ≤ 64
  bl : Below w.heap.size w wr
theorem lt_word {n : Nat} (h : ln n ≤ 2) : n < 18446744073709551616 := by
  have := Nat.lt_of_lt_of_le (lt_ln n) (Nat.pow_le_pow_right B_pos h)
  rwa [B_eq, show (4294967296 : Nat) ^ 2 = 18446744073709551616 by decide] at this
theorem ln_word {n : Nat} (h : n < 18446744073709551616) : ln n ≤ 2 := ln_le (by rw [B_eq, show (4294967296 : Nat) ^ 2 = 18446744073709551616 by decide]; exact h)
set_option maxHeartbeats 2000000 in
set_option maxRecDepth 100000 in
theorem gcd_any {A A' : Option Addr} {n c n' c' a b : Nat} {w : World} (ha : Lim w A n c (limbs a)) (hb : Lim w A' n' c' (limbs b)) (la : ln a ≤ 64) (lb : ln b ≤ 64) :
    Calls Tryd.prog 61 #[.slice A n c, .slice A' n' c'] w fun e w' => RetE (Nat.gcd a b) 0 w e w' := by
  have RA := Lib.hid (right_yes ha la); have RB := Lib.hid (right_yes hb lb)
  have S0 : Both w a b (.slice A n c) (.slice A' n' c') w := ⟨⟨_, _, _, _, _, _, rfl, rfl, ha, hb⟩, la, lb, Below.refl _ _⟩
  clear ha hb la lb
  go_enter Tryd.func61, Tryd.ntmps61
  go_wp2_with fail
  refine RA.out.mono ?_
  rintro e w' ⟨rfl, rfl⟩
  go_wp2_with fail
  refine RB.out.mono ?_
  rintro e w' ⟨rfl, rfl⟩
  go_wp2_with fail
  go_loopg [0, 1] b (fun y s0 s1 wr => ∃ x, Hid (Nat.gcd x y = Nat.gcd a b) ∧ Both w x y s0 s1 wr)
  case atStart => exact ⟨a, rfl, S0⟩
  case round =>
    clear S0 RA RB
    obtain ⟨x, hg, S⟩ := hrel
    obtain ⟨A, n, c, A', n', c', rfl, rfl, L0, L1⟩ := S.ex
    have lx := S.lx; have ly := S.ly; have BL := S.bl
    have hl := L0.len; have hl' := L1.len
    rw [limbs_length] at hl hl'
    have n1 : n ≤ 64 := by omega
    have n2 : n' ≤ 64 := by omega
    by_cases h2 : 2 < n'
    · have i2 : (2 : Int) < n' := by omega
      have y0 : gk ≠ 0 := by intro e; subst e; rw [ln_zero] at hl'; omega
      have lt : x % gk < gk := Nat.mod_lt _ (Nat.pos_of_ne_zero y0)
      have G : Hid (Nat.gcd gk (x % gk) = Nat.gcd a b) := by
        unfold Hid
        rw [← hg.out, Nat.gcd_comm gk, ← Nat.gcd_rec gk x, Nat.gcd_comm]
      have KD := Lib.hid (divide_any L0 L1 lx y0)
      have lr : ln (x % gk) ≤ 64 := Nat.le_trans (ln_mono (Nat.le_of_lt lt)) ly
      have L1h := Lib.hid L1
      generalize x % gk = r at *
      clear L0 L1 hg S hl hl'
      go_wp2_with fail
      refine KD.out.mono ?_
      rintro e w1 ⟨A2, n3, c2, A3, n4, c3, rfl, L2, L3, B1⟩
      have L3h := Lib.hid L3
      clear L2 L3
      go_wp2_with fail
      go_roundg r
      case measure => exact lt
      case rel =>
        go_light
        exact ⟨gk, G, ⟨_, _, _, _, _, _, rfl, rfl, L1h.out.next B1, L3h.out⟩, ly, lr, below_step BL B1⟩
    · have i2 : ¬ (2 : Int) < n' := by omega
      by_cases hz : n' = 0
      · subst hz
        have y0 := ln_eq_zero hl'
        subst y0
        have E : Hid (Nat.gcd a b = x) := by unfold Hid; rw [← hg.out, Nat.gcd_zero_right]
        have KC := Lib.hid (clone_any L0 (by omega))
        clear L0 L1 hg S hl hl'
        go_wp2_with fail
        refine KC.out.mono ?_
        rintro e w1 ⟨A2, n2, c2, rfl, L2, B1⟩
        have KT := Lib.hid (trim_any L2)
        rw [val_limbs] at KT
        clear L2
        go_wp2_with fail
        refine KT.out.mono ?_
        rintro e w2 ⟨A3, n3, c3, rfl, L3, rfl⟩
        go_wp2_with fail
        go_ret2
        exact ⟨_, _, _, rfl, by rw [E.out]; exact L3, below_step BL B1⟩
      · have h0 : ((n' : Int) == 0) = false := by simpa using hz
        have y0 : gk ≠ 0 := by intro e; subst e; rw [ln_zero] at hl'; omega
        have lt : x % gk < gk := Nat.mod_lt _ (Nat.pos_of_ne_zero y0)
        have G : Hid (Nat.gcd gk (x % gk) = Nat.gcd a b) := by
          unfold Hid
          rw [← hg.out, Nat.gcd_comm gk, ← Nat.gcd_rec gk x, Nat.gcd_comm]
        have KD := Lib.hid (divide_any L0 L1 lx y0)
        have lr : ln (x % gk) ≤ 2 := Nat.le_trans (ln_mono (Nat.le_of_lt lt)) (by omega)
        have wy := lt_word (show ln gk ≤ 2 by omega)
        have wr2 := lt_word lr
        have L1h := Lib.hid L1
        have gl : Nat.gcd a b < 18446744073709551616 := by
          rw [← G.out]
          exact Nat.lt_of_le_of_lt (Nat.gcd_le_left _ (Nat.pos_of_ne_zero y0)) wy
        generalize x % gk = r at *
        clear L0 L1 hg S hl hl'
        go_wp2_with fail
        refine KD.out.mono ?_
        rintro e w1 ⟨A2, n3, c2, A3, n4, c3, rfl, L2, L3, B1⟩
        have K1 := Lib.hid (word_any (L1h.out.next B1) (by omega))
        have hl4 := L3.len
        rw [limbs_length] at hl4
        have K2 := Lib.hid (word_any L3 (by omega))
        rw [val_limbs] at K1 K2
        clear L2 L3 hl4
        go_wp2_with fail
        refine K1.out.mono ?_
        rintro e w2 ⟨rfl, rfl⟩
        go_wp2_with fail
        refine K2.out.mono ?_
        rintro e w2 ⟨rfl, rfl⟩
        go_wp2_with fail
        refine (gcdWords_any gk r wy wr2 _).mono ?_
        rintro e w2 ⟨rfl, m, rfl⟩
        rw [G.out]
        go_wp2_with fail
        refine (of_any (Nat.gcd a b) gl _).mono ?_
        rintro e w3 ⟨A5, n5, c5, rfl, L5, B5⟩
        go_wp2_with fail
        go_ret2
        exact ⟨_, _, _, rfl, L5, below_step (below_drewN (below_step BL B1) m) B5⟩
set_option maxRecDepth 100000 in
theorem gcd_none {A A' : Option Addr} {n c n' c' : Nat} {xs ys : List Nat} {w : World} (ha : Lim w A n c xs) (hb : Lim w A' n' c' ys) (h : NoTwo xs ys) :
    Calls Tryd.prog 61 #[.slice A n c, .slice A' n' c'] w fun e w' => e = .returned (.tuple #[.slice none 0 0, .int .i64 1]) ∧ w = w' := by
  rcases rights_no ha hb h with ⟨_, RA, RB⟩ | RA
  · have RA := Lib.hid RA; have RB := Lib.hid RB
    clear ha hb h
    go_enter Tryd.func61, Tryd.ntmps61
    go_wp2_with fail
    refine (RA.out _ rfl).mono ?_
    rintro e w' ⟨rfl, rfl⟩
    go_wp2_with fail
    refine (RB.out _ rfl).mono ?_
    rintro e w' ⟨rfl, rfl⟩
    go_wp2_with fail
    go_ret2
    exact ⟨rfl, rfl⟩
  · have RA := Lib.hid RA
    clear ha hb h
    go_enter Tryd.func61, Tryd.ntmps61
    go_wp2_with fail
    refine (RA.out _ rfl).mono ?_
    rintro e w' ⟨rfl, rfl⟩
    go_wp2_with fail
    go_ret2
    exact ⟨rfl, rfl⟩
end Go.Proofs.YthollkngfibgaaaDoor
namespace Go.Proofs.YthollkngfibgaaaDoor

/-- The number of decimal digits, the lowest first. -/
def dv : List Nat → Nat
  | [] => 0
  | x :: r => x + 10 * dv r
/-- Digits. -/
def Dg (xs : List Nat) : Prop := ∀ x ∈ xs, x < 10
theorem Dg.nil : Dg [] := fun x hx => by cases hx
theorem Dg.cons {x : Nat} {r : List Nat} (h : x < 10) (k : Dg r) : Dg (x :: r) := fun y hy => by
  rcases List.mem_cons.1 hy with rfl | hy
  · exact h
  · exact k y hy
theorem Dg.head {x : Nat} {r : List Nat} (h : Dg (x :: r)) : x < 10 := h x (by simp)
theorem Dg.tail {x : Nat} {r : List Nat} (h : Dg (x :: r)) : Dg r := fun y hy => h y (by simp [hy])
theorem Dg.append {xs ys : List Nat} (h : Dg xs) (k : Dg ys) : Dg (xs ++ ys) := fun y hy => by
  rcases List.mem_append.1 hy with hy | hy
  · exact h y hy
  · exact k y hy
theorem Dg.take {xs : List Nat} (h : Dg xs) (k : Nat) : Dg (xs.take k) := fun y hy => h y (List.mem_of_mem_take hy)
theorem dv_append (xs ys : List Nat) : dv (xs ++ ys) = dv xs + 10 ^ xs.length * dv ys := by
  induction xs with
  | nil => simp [dv]
  | cons x r ih => rw [List.cons_append, dv, dv, ih, List.length_cons, Nat.pow_succ, Nat.mul_add, Nat.add_assoc, Nat.mul_comm (10 ^ r.length) 10, Nat.mul_assoc]
theorem dv_snoc_zero (xs : List Nat) : dv (xs ++ [0]) = dv xs := by rw [dv_append]; simp [dv]
/-- The digits of a number, the lowest first. -/
def tens (n : Nat) : List Nat := if h : n = 0 then [] else n % 10 :: tens (n / 10)
termination_by n
decreasing_by exact Nat.div_lt_self (Nat.pos_of_ne_zero h) (by decide)
theorem tens_zero : tens 0 = [] := by rw [tens]; rfl
theorem tens_pos {n : Nat} (h : n ≠ 0) : tens n = n % 10 :: tens (n / 10) := by rw [tens, dif_neg h]
theorem tens_step (n : Nat) : tens n = if n = 0 then [] else n % 10 :: tens (n / 10) := by
  by_cases h : n = 0
  · rw [if_pos h, h, tens_zero]
  · rw [if_neg h, tens_pos h]
theorem dg_tens (n : Nat) : Dg (tens n) := by
  induction n using Nat.strongRecOn with
  | _ n ih =>
    by_cases h : n = 0
    · rw [h, tens_zero]; exact .nil
    · rw [tens_pos h]
      exact .cons (Nat.mod_lt _ (by decide)) (ih _ (Nat.div_lt_self (Nat.pos_of_ne_zero h) (by decide)))
theorem dv_tens (n : Nat) : dv (tens n) = n := by
  induction n using Nat.strongRecOn with
  | _ n ih =>
    by_cases h : n = 0
    · rw [h, tens_zero]; rfl
    · rw [tens_pos h, dv, ih _ (Nat.div_lt_self (Nat.pos_of_ne_zero h) (by decide))]
      omega
theorem tens_dv {xs : List Nat} (h : Dg xs) (k : ∀ hn : xs ≠ [], xs.getLast hn ≠ 0) : tens (dv xs) = xs := by
  induction xs with
  | nil => rw [dv, tens_zero]
  | cons x r ih =>
    by_cases hr : r = []
    · subst hr
      have := k (by simp)
      simp at this
      have hx := h.head
      rw [dv, dv, Nat.mul_zero, Nat.add_zero, tens_pos this, Nat.mod_eq_of_lt hx, Nat.div_eq_of_lt hx, tens_zero]
    · have k' : ∀ hn : r ≠ [], r.getLast hn ≠ 0 := fun hn => by
        have := k (by simp)
        rwa [List.getLast_cons hn] at this
      have i := ih h.tail k'
      have nz : dv r ≠ 0 := by
        intro e
        rw [e, tens_zero] at i
        exact hr i.symm
      have hx := h.head
      rw [dv, tens_pos (by omega), show (x + 10 * dv r) % 10 = x by omega, show (x + 10 * dv r) / 10 = dv r by omega, i]
theorem tens_last (n : Nat) (hn : tens n ≠ []) : (tens n).getLast hn ≠ 0 := by
  induction n using Nat.strongRecOn with
  | _ n ih =>
    by_cases h : n = 0
    · subst h; exact absurd tens_zero hn
    · have e := tens_pos h
      have : (tens n).getLast hn = (n % 10 :: tens (n / 10)).getLast (by simp) := by simp only [e]
      rw [this]
      by_cases h2 : n / 10 = 0
      · have e3 : tens (n / 10) = [] := by rw [h2, tens_zero]
        simp only [e3, List.getLast_singleton]
        omega
      · have hne : tens (n / 10) ≠ [] := by rw [tens_pos h2]; simp
        rw [List.getLast_cons hne]
        exact ih _ (Nat.div_lt_self (Nat.pos_of_ne_zero h) (by decide)) hne
/-- So many digits of a number, noughts among them. -/
def pads : Nat → Nat → List Nat
  | 0, _ => []
  | k + 1, n => n % 10 :: pads k (n / 10)
theorem pads_length (k n : Nat) : (pads k n).length = k := by
  induction k generalizing n with
  | zero => rfl
  | succ k ih => rw [pads, List.length_cons, ih]
theorem dg_pads (k n : Nat) : Dg (pads k n) := by
  induction k generalizing n with
  | zero => exact .nil
  | succ k ih => exact .cons (Nat.mod_lt _ (by decide)) (ih _)
theorem dv_pads (k n : Nat) (h : n < 10 ^ k) : dv (pads k n) = n := by
  induction k generalizing n with
  | zero => have : n = 0 := by simpa using h
            rw [this]; rfl
  | succ k ih =>
    rw [pads, dv, ih (n / 10) ((Nat.div_lt_iff_lt_mul (by decide)).2 (by rw [Nat.pow_succ] at h; exact h))]
    omega
theorem pads_snoc (k n : Nat) : pads (k + 1) n = pads k n ++ [n / 10 ^ k % 10] := by
  induction k generalizing n with
  | zero => simp [pads]
  | succ k ih =>
    rw [pads, ih (n / 10), pads, List.cons_append, Nat.div_div_eq_div_mul, Nat.pow_succ, Nat.mul_comm 10]
/-- A digit as a byte. -/
def dig (d : Nat) : UInt8 := UInt8.ofNat (48 + d)
theorem dig_toNat {d : Nat} (h : d < 10) : (dig d).toNat = 48 + d := by
  unfold dig
  rw [UInt8.toNat_ofNat_of_lt' (by show 48 + d < 256; omega)]
theorem dig_zero : dig 0 = 48 := rfl
theorem dig_ne {d : Nat} (h : d < 10) (hz : d ≠ 0) : dig d ≠ 48 := by
  intro e
  have := dig_toNat h
  rw [e] at this
  have : (48 : UInt8).toNat = 48 := rfl
  omega
/-- The text of a number. -/
@[irreducible] def dtext (n : Nat) : List UInt8 := if n = 0 then [48] else ((tens n).map dig).reverse
theorem dtext_zero : dtext 0 = [48] := by unfold dtext; rw [if_pos rfl]
theorem dtext_pos {n : Nat} (h : n ≠ 0) : dtext n = ((tens n).map dig).reverse := by unfold dtext; rw [if_neg h]

/-- The number of a text. -/
def rd (l : List UInt8) : Nat := l.foldl (fun n c => n * 10 + (c.toNat - 48)) 0
theorem rd_snoc (l : List UInt8) (c : UInt8) : rd (l ++ [c]) = rd l * 10 + (c.toNat - 48) := by unfold rd; rw [List.foldl_append]; rfl
theorem rd_digits (ds : List Nat) (h : Dg ds) : rd ((ds.map dig).reverse) = dv ds := by
  induction ds with
  | nil => rfl
  | cons x r ih =>
    rw [List.map_cons, List.reverse_cons, rd_snoc, ih h.tail, dig_toNat h.head, dv]
    omega
theorem rd_dtext (n : Nat) : rd (dtext n) = n := by
  by_cases h : n = 0
  · rw [h, dtext_zero]; rfl
  · rw [dtext_pos h, rd_digits _ (dg_tens n), dv_tens]
/-- A decimal digit. -/
def isD (c : UInt8) : Prop := 48 ≤ c.toNat ∧ c.toNat ≤ 57
/-- Is it a natural's text? -/
def isT (l : List UInt8) : Prop := l ≠ [] ∧ ¬ (l.head? = some 48 ∧ 1 < l.length) ∧ ∀ c ∈ l, isD c
theorem isD_dig {d : Nat} (h : d < 10) : isD (dig d) := by unfold isD; rw [dig_toNat h]; omega
theorem isT_dtext (n : Nat) : isT (dtext n) := by
  by_cases h : n = 0
  · rw [h, dtext_zero]
    refine ⟨by simp, by simp, ?_⟩
    intro c hc
    have : c = 48 := by simpa using hc
    rw [this]
    exact ⟨by decide, by decide⟩
  · have hne : tens n ≠ [] := by rw [tens_pos h]; simp
    rw [dtext_pos h]
    refine ⟨by simp [hne], ?_, ?_⟩
    · rintro ⟨hh, _⟩
      have l := tens_last n hne
      rw [List.head?_reverse, List.getLast?_map, List.getLast?_eq_some_getLast hne] at hh
      simp only [Option.map_some, Option.some.injEq] at hh
      exact dig_ne (dg_tens n _ (List.getLast_mem hne)) l hh
    · intro c hc
      rw [List.mem_reverse, List.mem_map] at hc
      obtain ⟨d, hd, rfl⟩ := hc
      exact isD_dig (dg_tens n d hd)
theorem rd_append (l m : List UInt8) : rd (l ++ m) = rd l * 10 ^ m.length + rd m := by
  induction m generalizing l with
  | nil => simp [rd]
  | cons c r ih =>
    have e : l ++ c :: r = (l ++ [c]) ++ r := by simp
    have e2 : c :: r = [c] ++ r := rfl
    rw [e, ih, rd_snoc, e2, ih [c], List.length_append, List.length_singleton]
    have : rd [c] = c.toNat - 48 := by simp [rd]
    rw [this, Nat.add_mul, Nat.pow_add, Nat.pow_one, ← Nat.mul_assoc, Nat.add_assoc]
theorem rd_lt (l : List UInt8) (h : ∀ c ∈ l, isD c) : rd l < 10 ^ l.length := by
  induction l with
  | nil => simp [rd]
  | cons c r ih =>
    have e2 : c :: r = [c] ++ r := rfl
    have i := ih (fun x hx => h x (by simp [hx]))
    have hc := (h c (by simp)).2
    have : rd [c] = c.toNat - 48 := by simp [rd]
    rw [e2, rd_append, this, List.length_append, List.length_singleton, Nat.pow_add, Nat.pow_one]
    have : (c.toNat - 48) * 10 ^ r.length ≤ 9 * 10 ^ r.length := Nat.mul_le_mul_right _ (by omega)
    omega
theorem rd_mono (l m : List UInt8) : rd l ≤ rd (l ++ m) := by
  rw [rd_append]
  have : rd l * 1 ≤ rd l * 10 ^ m.length := Nat.mul_le_mul_left _ (Nat.pow_pos (by decide))
  omega
end Go.Proofs.YthollkngfibgaaaDoor
namespace Go.Proofs.YthollkngfibgaaaDoor
open Go.RowKit
set_option linter.unusedVariables false
set_option linter.unusedSimpArgs false

/-- A byte. -/
abbrev bv (b : UInt8) : Value := .int .u8 (b.toNat : Int)
theorem info_u8 : (Tryd.prog.info? 5).map (fun i => (i.zero, i.size, i.bytes)) = some (some (.int .u8 0), 1, 1) := by kernel_rfl
/-- What is in the loop of withDigits. -/
structure Wdg (w : World) (base : Nat) (v : Value) (n : Nat) (bs : List UInt8) (x k : Nat) (v' : Value) (wr : World) : Prop where
  own : wr.ownsRow base 5 1 v' (n + k) ((bs ++ (pads k x).map dig).map bv)
  gr : w.grownBy wr v.ownBlock
  lies : v'.ownBlock = v.ownBlock ∨ ∃ b, v'.ownBlock = some b ∧ w.heap.size ≤ b
theorem Wdg.step {w : World} {base : Nat} {v : Value} {n : Nat} {bs : List UInt8} {x k : Nat} {v1 v2 : Value} {wr w2 : World} {o : Obj} (h : Wdg w base v n bs x k v1 wr)
    (hown : w2.ownsRow base 5 1 v2 (n + k + 1) ((bs ++ (pads k x).map dig).map bv ++ [bv (dig (x / 10 ^ k % 10))])) (hg : (wr.alloc o).grownBy w2 v1.ownBlock)
    (hl : v2.ownBlock = v1.ownBlock ∨ v2.ownBlock = some (wr.heap.size + 1)) : Wdg w base v n bs x (k + 1) v2 w2 := by
  have sz := h.gr.size
  refine ⟨?_, ?_, ?_⟩
  · rw [pads_snoc]
    have e : n + (k + 1) = n + k + 1 := by omega
    rw [e]
    simpa using hown
  · refine ⟨hg.os.trans h.gr.os, hg.tape.trans h.gr.tape, hg.output.trans h.gr.output, Nat.le_trans sz (Nat.le_trans (by simp) hg.size), fun i hi hne => ?_⟩
    rw [hg.block i (by simp; omega) ?_, Below.heap_alloc wr o i (by omega), h.gr.block i hi hne]
    rcases h.lies with e | ⟨b, e, hb⟩
    · rw [e]; exact hne
    · rw [e]
      intro q
      injection q with q
      omega
  · rcases hl with e | e
    · rw [e]; exact h.lies
    · exact Or.inr ⟨_, e, by omega⟩
/-- What withDigits leaves. -/
def RetW (w : World) (base : Nat) (v : Value) (n : Nat) (bs : List UInt8) (x : Nat) (e : Ending) (w' : World) : Prop := ∃ v', e = .returned v' ∧ Wdg w base v n bs x 9 v' w'
theorem div10_cast (x : Nat) : (x : Int).tdiv 10 = ((x / 10 : Nat) : Int) := (Int.ofNat_tdiv x 10).symm

set_option maxHeartbeats 2000000 in
set_option maxRecDepth 100000 in
theorem withDigits_any {v : Value} {n base x : Nat} {bs : List UInt8} {w : World} (h : w.ownsRow base 5 1 v n (bs.map bv)) (hb : base ≤ w.heap.size) (hn : n ≤ 10000) (hx : x < 4294967296) :
    Calls Tryd.prog 66 #[v, lv x] w fun e w' => RetW w base v n bs x e w' := by
  have S0 : Wdg w base v n bs x 0 v w := ⟨by simpa [pads] using h, World.grownBy.refl w _, Or.inl rfl⟩
  obtain ⟨i0, hi, hz0, hz1, hz2⟩ := info_parts info_u8
  have HI := Lib.hid hi; have HZ0 := Lib.hid hz0; have HZ1 := Lib.hid hz1; have HZ2 := Lib.hid hz2
  clear h hi hz0 hz1 hz2
  go_enter Tryd.func66, Tryd.ntmps66
  go_wp2_with fail
  go_loopg [0, 1, 5] 9 (fun q s0 s1 s5 wr => ∃ (k y : Nat), k + q = 9 ∧ y < 4294967296 ∧ s5 = .int .i64 (k : Int) ∧ s1 = lv y ∧ Hid (y = x / 10 ^ k) ∧ Wdg w base v n bs x k s0 wr)
  case atStart => exact ⟨0, x, by omega, hx, rfl, rfl, by unfold Hid; simp, S0⟩
  case round =>
    clear S0
    obtain ⟨k, y, hq, hy, rfl, rfl, ey, S⟩ := hrel
    have HQ := Lib.hid hq
    by_cases lt : k < 9
    · have il : (k : Int) < 9 := by omega
      have hb2 : base ≤ wr.heap.size := Nat.le_trans hb S.gr.size
      have E1 : Hid (bv (dig (x / 10 ^ k % 10)) = Value.int IntKind.u8 (48 + (y : Int) % 10)) := by
        unfold Hid
        rw [ey.out]
        exact congrArg (Value.int .u8) (by rw [dig_toNat (Nat.mod_lt _ (by decide))]; omega)
      have SH := Lib.hid S
      have k9 := lt
      clear hq
      go_wp2_with (at_builtin; refine wpList_append_own_at _ rfl _ _ 92 rfl base 5 i0 (.int .u8 0) 1 1 Tryd.underlying92 HI.out HZ0.out HZ1.out HZ2.out rfl (by decide) u0 (n + k) ((bs ++ (pads k x).map dig).map bv) rfl (SH.out.own.alloc _) ⟨wr.heap.size, 0, none⟩ 1 1 [bv (dig (x / 10 ^ k % 10))] rfl rfl ?qc2 ?qc3 ?qc4 ?qc5 ?qc6 ?_)
      case qc2 =>
        intro j u hj
        rw [E1.out] at hj
        have : j = 0 := by
          have := (List.getElem?_eq_some_iff.1 hj).1
          simp at this
          omega
        subst this
        simp at hj
        rw [← hj]
        simp [go_sem, Addr.add]
      case qc3 => intro u hu; rw [List.mem_singleton] at hu; rw [hu]; rfl
      case qc4 => unfold maxLen; omega
      case qc5 => omega
      case qc6 => simp; omega
      intro v2 w2 hown hg _ hl
      have ST := SH.out.step (v2 := v2) (w2 := w2) (by simpa using hown) hg hl
      have STh := Lib.hid ST
      have EY : Hid (y / 10 = x / 10 ^ (k + 1)) := by unfold Hid; rw [ey.out, Nat.div_div_eq_div_mul, ← Nat.pow_succ]
      have y1 : y / 10 < 4294967296 := by omega
      clear hown hg hl ST S SH
      go_wp2_with fail
      go_roundg (gk - 1)
      case measure => have := HQ.out; omega
      case rel =>
        go_light
        exact ⟨k + 1, y / 10, by have := HQ.out; omega, y1, by go_num, congrArg (Value.int .u32) (by omega), EY, STh.out⟩
    · obtain rfl : 9 = k := by omega
      have S := Lib.hid S
      go_wp2_with fail
      go_ret
      exact ⟨_, rfl, S.out⟩

/-- Block g begins with these bytes. -/
structure Brow (w : World) (g : Nat) (bs : List UInt8) (ys : List Value) : Prop where
  blk : w.heap[g]? = some (.cells (bs.map bv ++ ys).toArray 5 (0, 0))
theorem Brow.cell {w : World} {g : Nat} {bs : List UInt8} {ys : List Value} (h : Brow w g bs ys) (i : Nat) (hi : i < bs.length) : w.cell? ⟨g, i, none⟩ = some (bv bs[i]) := by
  have := h.blk
  simp [World.cell?, this, List.getElem?_append_left, hi]
theorem Brow.melt {w : World} {g : Nat} {bs : List UInt8} {ys : List Value} (h : Brow w g bs ys) (i : Nat) : w.frozen? ⟨g, i, none⟩ = false := by
  have := h.blk
  simp [World.frozen?, this]
theorem Brow.lt {w : World} {g : Nat} {bs : List UInt8} {ys : List Value} (h : Brow w g bs ys) : g < w.heap.size := (Array.getElem?_eq_some_iff.1 h.blk).1
theorem Brow.set_ {w : World} {g : Nat} {bs : List UInt8} {ys : List Value} (h : Brow w g bs ys) (i : Nat) (hi : i < bs.length) (b : UInt8) : Brow (w.setCell ⟨g, i, none⟩ (bv b)) g (bs.set i b) ys := by
  refine ⟨?_⟩
  have := h.blk
  simp [World.setCell, Array.getElem?_modify, this]
  rw [List.set_append_left _ _ (by simpa using hi)]
theorem Brow.drew {w : World} {g : Nat} {bs : List UInt8} {ys : List Value} (h : Brow w g bs ys) : Brow w.drew g bs ys := ⟨h.blk⟩
theorem own_brow {w : World} {base n : Nat} {v : Value} {bs : List UInt8} (h : w.ownsRow base 5 1 v n (bs.map bv)) (hn : 0 < n) : ∃ g c ys, v = .slice (some ⟨g, 0, none⟩) n c ∧ base ≤ g ∧ n ≤ c ∧ c ≤ maxLen ∧ bs.length = n ∧ Brow w g bs ys := by
  have hl : bs.length = n := by have := h.1; simpa using this
  rcases h.2 with ⟨rfl, rfl⟩ | ⟨g, cap, cur, rfl, h0, hb, h1, h2, h3, h4⟩
  · omega
  · refine ⟨g, cap, cur.toList.drop n, rfl, h0, h1, h2, hl, ⟨?_⟩⟩
    rw [hb]
    have : cur = (bs.map bv ++ cur.toList.drop n).toArray := by
      apply Array.ext'
      rw [Nat.mul_one] at h4
      rw [← h4]
      simp
    rw [← this]

theorem map_dig_at (ds : List Nat) (k : Nat) (hk : k < ds.length) : (ds.map dig)[k]'(by simpa using hk) = dig ds[k] := by simp
set_option maxHeartbeats 1000000 in
set_option maxRecDepth 100000 in
theorem trimRightByte_any {g n c : Nat} {ds : List Nat} {ys : List Value} {w : World} (h : Brow w g (ds.map dig) ys) (hd : Dg ds) (hl : ds.length = n) (hc : n ≤ c) (ht : c ≤ 9223372036854775807) :
    Calls Tryd.prog 84 #[.slice (some ⟨g, 0, none⟩) n c, .int .u8 48] w fun e w' => ∃ k, k ≤ n ∧ e = .returned (.slice (some ⟨g, 0, none⟩) k c) ∧ ds.take k = tens (dv ds) ∧ w = w' := by
  have H := Lib.hid h; have HD := Lib.hid hd; have HL := Lib.hid hl
  clear h hd hl
  go_enter Tryd.func84, Tryd.ntmps84
  go_wp2_with fail
  go_loopg [0] n (fun q s0 wr => q ≤ n ∧ s0 = .slice (some ⟨g, 0, none⟩) q c ∧ Hid (dv (ds.take q) = dv ds) ∧ w = wr)
  case atStart => exact ⟨Nat.le_refl _, rfl, by unfold Hid; rw [List.take_of_length_le (by rw [HL.out]; exact Nat.le_refl _)], rfl⟩
  case round =>
    obtain ⟨hq, rfl, hv, rfl⟩ := hrel
    by_cases hz : gk = 0
    · subst hz
      have E : Hid (ds.take 0 = tens (dv ds)) := by unfold Hid; rw [← hv.out, List.take_zero, dv, tens_zero]
      go_wp2_with fail
      go_ret
      exact ⟨0, Nat.zero_le _, rfl, E.out, rfl⟩
    · obtain ⟨k, rfl⟩ : ∃ k, gk = k + 1 := ⟨gk - 1, by omega⟩
      have kx : k < ds.length := by rw [HL.out]; omega
      have hcell0 := H.out.cell k (by simpa using kx)
      rw [map_dig_at ds k kx] at hcell0
      have hcell : w.cell? ⟨g, k, none⟩ = some (.int .u8 ((dig ds[k]).toNat : Int)) := hcell0
      clear hcell0
      have hd := HD.out _ (List.getElem_mem kx)
      have et : ds.take (k + 1) = ds.take k ++ [ds[k]] := take_snoc ds k kx
      by_cases hx : ds[k] = 0
      · have HV : Hid (dv (ds.take k) = dv ds) := by unfold Hid; rw [← hv.out, et, hx, dv_snoc_zero]
        have hc0 : w.cell? ⟨g, k, none⟩ = some (.int .u8 48) := by rw [hcell, hx]; rfl
        clear hx hv hcell et hd
        go_wp2_with fail
        go_roundg k
        case measure => omega
        case rel => exact ⟨by omega, rfl, HV, rfl⟩
      · have E : Hid (ds.take (k + 1) = tens (dv ds)) := by
          unfold Hid
          rw [← hv.out]
          refine (tens_dv (HD.out.take _) (getLast_ne (x := ds[k]) ?_ hx)).symm
          rw [List.length_take, Nat.min_eq_left (by omega), Nat.add_sub_cancel, List.getElem?_take, if_pos (by omega), List.getElem?_eq_getElem kx]
        have ne : (((dig ds[k]).toNat : Int) == 48) = false := by
          rw [dig_toNat hd]
          simp; omega
        generalize ds[k] = x at *
        generalize ((dig x).toNat : Int) = y at *
        clear hx hv et hd
        go_wp2_with fail
        go_ret
        exact ⟨k + 1, by omega, rfl, E.out, rfl⟩
set_option maxRecDepth 100000 in
theorem trimRight_any {g n c : Nat} {ds : List Nat} {ys : List Value} {w : World} (h : Brow w g (ds.map dig) ys) (hd : Dg ds) (hl : ds.length = n) (hc : n ≤ c) (ht : c ≤ 9223372036854775807) (hn : 0 < n) :
    Calls Tryd.prog 67 #[.slice (some ⟨g, 0, none⟩) n c, .string ⟨#[48]⟩] w fun e w' => ∃ k, k ≤ n ∧ e = .returned (.slice (some ⟨g, 0, none⟩) k c) ∧ ds.take k = tens (dv ds) ∧ w = w' := by
  have K := Lib.hid (trimRightByte_any h hd hl hc ht)
  have h0 : ((n : Int) == 0) = false := by simp; omega
  clear h hd hl
  go_enter Tryd.func67, Tryd.ntmps67
  go_wp2_with fail
  refine K.out.mono ?_
  rintro e w' ⟨k, hk, rfl, E, rfl⟩
  have E := Lib.hid E
  go_wp2_with fail
  go_ret
  exact ⟨k, hk, rfl, E.out, rfl⟩
end Go.Proofs.YthollkngfibgaaaDoor
