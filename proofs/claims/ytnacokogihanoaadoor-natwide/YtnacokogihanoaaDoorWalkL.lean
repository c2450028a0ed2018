/- The walk of divLong. -/
import Derived.Test.YtnacokogihanoaaDoorWalkK
import Derived.Test.YtnacokogihanoaaDoorNumD
namespace Go.Proofs.YtnacokogihanoaaDoor
open Go.RowKit
set_option linter.unusedVariables false
set_option linter.unusedSimpArgs false

/-- Two naturals. -/
def RetD (q r : Nat) (w : World) (e : Ending) (w' : World) : Prop := ∃ A n c A' n' c', e = .returned (.tuple #[.slice A n c, .slice A' n' c']) ∧ Lim w' A n c (limbs q) ∧ Lim w' A' n' c' (limbs r) ∧ Below w.heap.size w w'
/-- Both shifted numbers, in blocks of their own. -/
structure Two (w : World) (n m a b : Nat) (gR gV : Nat) (S vs : List Nat) (wx : World) : Prop where
  sl : S.length = n + 1
  vl : vs.length = m + 1
  sv : val S = a
  vv : val vs = b
  r1 : Row wx gR S
  r2 : Row wx gV vs
  ne : gR ≠ gV
  g1 : w.heap.size ≤ gR
  g2 : w.heap.size ≤ gV
  bl : Below w.heap.size w wx
theorem Two.ab {w W wa wb : World} {n m a b : Nat} {sa sb : List Nat} (h0 : Below w.heap.size w W) (la : sa.length = n + 1) (va : val sa = a) (ra : Row wa W.heap.size sa) (ba : Below W.heap.size W wa)
    (lb : sb.length = m + 1) (vb : val sb = b) (rb : Row wb wa.heap.size sb) (bb : Below wa.heap.size wa wb) : Two w n m a b W.heap.size wa.heap.size sa sb wb :=
  ⟨la, lb, va, vb, ra.next bb, rb, Nat.ne_of_lt ra.lt, h0.size, Nat.le_trans h0.size ba.size, below_step (below_step h0 ba) bb⟩
theorem Two.ba {w W wa wb : World} {n m a b : Nat} {sa sb : List Nat} (h0 : Below w.heap.size w W) (la : sa.length = n + 1) (va : val sa = a) (ra : Row wa wb.heap.size sa) (ba : Below wb.heap.size wb wa)
    (lb : sb.length = m + 1) (vb : val sb = b) (rb : Row wb W.heap.size sb) (bb : Below W.heap.size W wb) : Two w n m a b wb.heap.size W.heap.size sa sb wa :=
  ⟨la, lb, va, vb, ra, rb.next ba, Nat.ne_of_gt rb.lt, Nat.le_trans h0.size bb.size, h0.size, below_step (below_step h0 bb) ba⟩
theorem Two.drew {w : World} {n m a b gR gV : Nat} {S vs : List Nat} {wx : World} (h : Two w n m a b gR gV S vs wx) : Two w n m a b gR gV S vs wx.drew :=
  ⟨h.sl, h.vl, h.sv, h.vv, h.r1.drew, h.r2.drew, h.ne, h.g1, h.g2, h.bl.drew⟩
/-- What is in the loop of divLong. -/
structure Dlg (w : World) (n m d gR gV gQ : Nat) (S vs : List Nat) (i : Nat) (wr : World) : Prop where
  qs : ∃ ws qs, ws.length = m ∧ val ws < val (vs.take m) ∧ qs.length + i = d ∧ val (S.drop i) = val qs * val (vs.take m) + val ws ∧ Row wr gR (S.take i ++ ws ++ List.replicate (n + 1 - i - m) 0) ∧ Row wr gQ (List.replicate i 0 ++ qs)
  rv : Row wr gV vs
  bl : Below w.heap.size w wr

theorem win_parts (S ws : List Nat) (i m r : Nat) (hi : i < S.length) (hw : ws.length = m) :
    let zs := S.take (i + 1) ++ ws ++ List.replicate r 0
    zs.take i = S.take i ∧ (zs.drop (i + 1)).take m = ws ∧ (zs.drop i).take (m + 1) = S[i] :: ws ∧ zs.drop (i + (m + 1)) = List.replicate r 0 := by
  intro zs
  have e0 : zs = S.take i ++ (S[i] :: (ws ++ List.replicate r 0)) := by
    show S.take (i + 1) ++ ws ++ List.replicate r 0 = _
    rw [take_snoc S i hi, List.append_assoc, List.append_assoc]; rfl
  have l0 : (S.take i).length = i := by simp; omega
  have d0 : zs.drop i = S[i] :: (ws ++ List.replicate r 0) := by
    rw [e0, List.drop_append, List.drop_of_length_le (by omega), List.nil_append, l0, Nat.sub_self, List.drop_zero]
  have d1 : zs.drop (i + 1) = ws ++ List.replicate r 0 := by
    rw [← List.drop_drop, d0]; rfl
  refine ⟨?_, ?_, ?_, ?_⟩
  · rw [e0, List.take_append_of_le_length (by omega), List.take_of_length_le (by omega)]
  · rw [d1, List.take_append_of_le_length (by omega), List.take_of_length_le (by omega)]
  · rw [d0, List.take_succ_cons, List.take_append_of_le_length (by omega), List.take_of_length_le (by omega)]
  · rw [show i + (m + 1) = i + 1 + m by omega, ← List.drop_drop, d1, List.drop_append, List.drop_of_length_le (by omega), List.nil_append, hw, Nat.sub_self, List.drop_zero]
theorem Dlg.step {w : World} {n m d gR gV gQ : Nat} {S vs : List Nat} {i : Nat} {wr : World} (h : Dlg w n m d gR gV gQ S vs (i + 1) wr) (hd : d + m = n + 1) (hi : i < d) (sl : S.length = n + 1) (lS : Lo S) (hm : 0 < m)
    (vlt : val (vs.take m) < B ^ m) (vpos : 0 < val (vs.take m)) (n1 : gR ≠ gV) (n2 : gQ ≠ gR) (n3 : gQ ≠ gV) (w1 : w.heap.size ≤ gR) (w2 : w.heap.size ≤ gQ) :
    ∃ zs, zs.length = n + 1 ∧ Row wr gR zs ∧ val ((zs.drop (i + 1)).take m) < val (vs.take m) ∧
      ∀ e w2, RetO wr gR i zs m (val ((zs.drop i).take (m + 1))) (val (vs.take m)) e w2 → ∃ q, q < 4294967296 ∧ e = .returned (lv q) ∧ w2.cell? ⟨gQ, i, none⟩ = some (lv 0) ∧ w2.frozen? ⟨gQ, i, none⟩ = false ∧
        Dlg w n m d gR gV gQ S vs i (w2.setCell ⟨gQ, i, none⟩ (lv q)) := by
  obtain ⟨ws, qs, wl, wlt, ql, hv, rR, rQ⟩ := h.qs
  obtain ⟨p1, p2, p3, p4⟩ := win_parts S ws i m (n + 1 - (i + 1) - m) (by omega) wl
  have hS := lS.at_ i (by omega)
  refine ⟨_, by simp; omega, rR, by rw [p2]; exact wlt, ?_⟩
  intro e w3 he
  obtain ⟨ss, rfl, ssl, ssv, rR2, tt⟩ := he
  rw [p1, p4] at rR2
  rw [p3] at ssv ⊢
  have U1 : val (S[i] :: ws) < 4294967296 * val (vs.take m) := by
    rw [val_cons, B_eq]
    have : 4294967296 * (val ws + 1) ≤ 4294967296 * val (vs.take m) := Nat.mul_le_mul_left _ wlt
    omega
  have ql2 : val (S[i] :: ws) / val (vs.take m) < 4294967296 := (Nat.div_lt_iff_lt_mul vpos).2 U1
  have rl : val ss < val (vs.take m) := by rw [ssv]; exact Nat.mod_lt _ vpos
  obtain ⟨ws2, es, wl2, wv2⟩ := last_zero ssl (Nat.lt_trans rl vlt)
  have rQ2 := tt.row rQ n2
  have eq0 : List.replicate (i + 1) 0 ++ qs = List.replicate i 0 ++ (0 :: qs) := by
    rw [List.replicate_succ', List.append_assoc]; rfl
  rw [eq0] at rQ2
  refine ⟨_, ql2, rfl, rQ2.cell' ?_, rQ2.melt _, ⟨ws2, (val (S[i] :: ws) / val (vs.take m)) :: qs, wl2, by rw [wv2]; exact rl, by simp; omega, ?_, ?_, ?_⟩, (tt.row h.rv n1.symm).far (p := ⟨gQ, i, none⟩) n3.symm _, (h.bl.trans (tt.below w1)).setCell w2 _⟩
  · rw [List.getElem?_append_right (by simp)]; simp
  · rw [val_drop S i (by omega), val_cons, wv2, ssv]
    exact dlg_step hv (by rw [val_cons])
  · have er : S.take i ++ ws2 ++ List.replicate (n + 1 - i - m) 0 = S.take i ++ ss ++ List.replicate (n + 1 - (i + 1) - m) 0 := by
      rw [es, show n + 1 - i - m = (n + 1 - (i + 1) - m) + 1 by omega, List.replicate_succ]
      simp
    rw [er]
    exact rR2.far (p := ⟨gQ, i, none⟩) n2.symm _
  · have := rQ2.set_ i (val (S[i] :: ws) / val (vs.take m)) ql2
    rwa [List.set_append_right _ _ (by simp), List.length_replicate, Nat.sub_self, List.set_cons_zero] at this

set_option maxHeartbeats 4000000 in
set_option maxRecDepth 100000 in
theorem divLong_any {A A' : Option Addr} {n c m c' a b : Nat} {w : World} (ha : Lim w A n c (limbs a)) (hb : Lim w A' m c' (limbs b)) (la : ln a ≤ 64) (hm : 2 ≤ m) (hmn : m ≤ n) :
    Calls Tryd.prog 104 #[.slice A n c, .slice A' m c'] w fun e w' => RetD (a / b) (a % b) w e w' := by
  have hla := ha.len; have hlb := hb.len
  rw [limbs_length] at hla hlb
  obtain ⟨t, rfl⟩ : ∃ t, m = t + 1 := ⟨m - 1, by omega⟩
  have b0 : b ≠ 0 := by rintro rfl; rw [ln_zero] at hlb; omega
  have ht : t + 1 = (limbs b).length := by rw [limbs_length]; omega
  obtain ⟨ad, rfl⟩ := hb.some_ (by omega)
  have c1 := hb.cell t (by omega)
  have hx := (lo_limbs b).at_ t (by omega)
  have hx0 := last_ne_zero ht
  have hbl := bl_le (n := (limbs b)[t]'(by omega)) (k := 32) (by omega)
  have hbp := bl_pos hx0
  obtain ⟨s, hs⟩ : ∃ s, bl ((limbs b)[t]'(by omega)) + s = 32 := ⟨32 - bl ((limbs b)[t]'(by omega)), by omega⟩
  have hs31 : s < 32 := by omega
  have FIT := shift_fits ht hs
  have GE := shift_ge (k := s) b0 (show t + 1 = ln b by omega)
  have GEl : Hid (B ^ t * 2 ^ s ≤ b * 2 ^ s) := by
    have := le_of_ln b0
    rw [hlb, Nat.add_sub_cancel] at this
    exact Nat.mul_le_mul_right _ this
  have KL := Lib.hid (Tryd.bits_LeadingZeros32 ((limbs b)[t]'(by omega) : Int))
  have EB : Hid (32 - (Lib.bitLen ((limbs b)[t]'(by omega) : Int).toNat : Int) = (s : Int)) := by unfold Hid; rw [Int.toNat_natCast, bitLen_bl _ (by omega)]; omega
  generalize (limbs b)[t]'(by omega) = x at *
  have KA : Hid (∀ W : World, Below w.heap.size w W → Calls Tryd.prog 112 #[.slice A n c, .int .i64 s] W fun e w' => RetS n (a * 2 ^ s) W e w') := by
    intro W hW
    have := shifted_any (s := s) (ha.next hW) (by omega) hs31
    rwa [val_limbs] at this
  have KB : Hid (∀ W : World, Below w.heap.size w W → Calls Tryd.prog 112 #[.slice (some ad) (t + 1) c', .int .i64 s] W fun e w' => RetS (t + 1) (b * 2 ^ s) W e w') := by
    intro W hW
    have := shifted_any (s := s) (hb.next hW) (by omega) hs31
    rwa [val_limbs] at this
  have lta : a < B ^ n := by rw [← hla]; exact lt_ln a
  have LTA := Lib.hid lta
  have FITh := Lib.hid FIT; have GEh := Lib.hid GE
  have cb := hb.cap
  have hn64 : n ≤ 64 := by omega
  have B0 := Lib.hid b0
  clear ha hb hla hlb FIT GE hbl hbp hs lta ht la b0
  go_enter Tryd.func104, Tryd.ntmps104
  go_wp2_with fail
  refine (KL.out _ (by omega) (by omega)).mono ?_
  rintro e w' ⟨rfl, rfl⟩
  rw [EB.out]
  go_upto_region 2 with fail
  go_cut [7, 8] (fun s7 s8 wx => ∃ gR gV S vs, s7 = .slice (some ⟨gR, 0, none⟩) (n + 1) (n + 1) ∧ s8 = .slice (some ⟨gV, 0, none⟩) (t + 1) (t + 1 + 1) ∧ Two w' n (t + 1) (a * 2 ^ s) (b * 2 ^ s) gR gV S vs wx)
  case first =>
    go_region_with (go_at_call 112; first
      | ((with_reducible refine (KA.out _ ?_).mono ?_); rotate_left; rintro e wa ⟨sa, rfl, la, va, ra, ba⟩; rotate_left; first | exact Below.refl _ _ | exact (Below.refl _ _).drew | exact ⟨bb.os, bb.tape, bb.output, bb.size, bb.block⟩)
      | ((with_reducible refine (KB.out _ ?_).mono ?_); rotate_left; rintro e wb ⟨sb, rfl, lb, vb, rb, bb⟩; rotate_left; first | exact Below.refl _ _ | exact (Below.refl _ _).drew | exact ⟨ba.os, ba.tape, ba.output, ba.size, ba.block⟩))
    all_goals go_wp2_with fail
    all_goals go_meet
    all_goals go_light
    all_goals exact ⟨_, _, sa, sb, rfl, rfl, Two.ab (W := World.drew w') ((Below.refl _ _).drew) la va ra ba lb vb rb bb⟩
  case rest =>
    obtain ⟨gR, gV, S, vs, rfl, rfl, T⟩ := hcut
    obtain ⟨d, hd⟩ : ∃ d, d + (t + 1) = n + 1 := ⟨n - t, by omega⟩
    have ed : (n : Int) - ((t : Int) + 1) + 1 = (d : Int) := by omega
    have ed2 : (n : Int) - (t : Int) - 1 + 1 = (d : Int) := by omega
    have hmk := make_u32 d (by omega)
    have lv0 := T.r2.lo
    have VL := last_zero T.vl (by rw [T.vv]; exact FITh.out)
    have ev : val (vs.take (t + 1)) = b * 2 ^ s := by
      obtain ⟨ws, e1, e2, e3⟩ := VL
      rw [e1, List.take_append_of_le_length (by omega), List.take_of_length_le (by omega), e3, T.vv]
    have D0 : Dlg w' n (t + 1) d gR gV wc.heap.size S vs d (wc.alloc (zrow d)) := by
      refine ⟨⟨S.drop d, [], by simp [T.sl]; omega, ?_, by simp, by rw [val_nil, Nat.zero_mul, Nat.zero_add], ?_, ?_⟩, T.r2.alloc _, T.bl.alloc T.bl.size _⟩
      · rw [ev]
        exact start_lt (m := t + 1) (p := 2 ^ s) T.sv LTA.out hd T.sl (by omega) (Nat.two_pow_pos s) (by rw [Nat.add_sub_cancel]; exact GEl.out)
      · have e0 : n + 1 - d - (t + 1) = 0 := by omega
        rw [List.take_append_drop, e0, List.replicate_zero, List.append_nil]
        exact T.r1.alloc _
      · rw [List.append_nil]
        exact Row.zeros wc d
    have EV := Lib.hid ev
    have g1 := T.g1; have g2 := T.g2; have gne := T.ne
    have gq1 := T.r1.lt; have gq2 := T.r2.lt
    have SL := Lib.hid T.sl; have VLn := Lib.hid T.vl; have SV := Lib.hid T.sv
    have LS := Lib.hid T.r1.lo; have LV := Lib.hid lv0
    have gq0 : w'.heap.size ≤ wc.heap.size := T.bl.size
    clear T VL ev lv0
    go_wp2_with fail
    generalize wc.alloc (zrow d) = wa at *
    generalize wc.heap.size = gQ at *
    go_loopg [10] d (fun q s10 wr => q ≤ d ∧ s10 = .int .i64 ((q : Int) - 1) ∧ Dlg w' n (t + 1) d gR gV gQ S vs q wr)
    case atStart => exact ⟨Nat.le_refl _, rfl, D0⟩
    case round =>
      clear D0
      obtain ⟨hq, rfl, D⟩ := hrel
      have vpos : 0 < val (vs.take (t + 1)) := by rw [EV.out]; exact Nat.mul_pos (Nat.pos_of_ne_zero B0.out) (Nat.two_pow_pos s)
      by_cases hz : gk = 0
      · subst hz
        have ek : ((0 : Nat) : Int) - 1 = -1 := by omega
        rw [ek]
        clear ek
        obtain ⟨ws, qs, wl, wlt, ql, hv, rR, rQ⟩ := D.qs
        rw [List.drop_zero, SV.out, EV.out] at hv
        rw [EV.out] at wlt
        obtain ⟨eq1, eq2⟩ := div_scaled (Nat.two_pow_pos s) (Nat.pos_of_ne_zero B0.out) hv wlt
        have TQ : Hid (∀ W : World, Below wr.heap.size wr W → Calls Tryd.prog 65 #[.slice (some ⟨gQ, 0, none⟩) d d] W fun e w' => ∃ A' n' c', e = .returned (.slice A' n' c') ∧ Lim W A' n' c' (limbs (a / b)) ∧ W = w') := by
          intro W hW
          have L := (rQ.next hW).lim (o := 0) (n := d) (c := d) (by simp; omega) (Nat.le_refl _) (by omega)
          rw [List.drop_zero, List.replicate_zero, List.nil_append, List.take_of_length_le (by omega)] at L
          have := trim_any L
          rwa [eq1] at this
        have TS : Hid (∀ W : World, Below wr.heap.size wr W → Calls Tryd.prog 114 #[.slice (some ⟨gR, 0, none⟩) (t + 1) (n + 1), .int .i64 s] W fun e w' => RetN (a % b) W e w') := by
          intro W hW
          have L := (rR.next hW).lim (o := 0) (n := t + 1) (c := n + 1) (by simp; omega) (by omega) (by omega)
          rw [List.drop_zero, List.take_zero, List.nil_append, List.take_append_of_le_length (by omega), List.take_of_length_le (by omega)] at L
          have := shiftedBack_any L (by omega) hs31
          rwa [eq2] at this
        have BL := D.bl
        have i2 : (t : Int) + 1 ≤ (n : Int) + 1 := by omega
        have i0 : (0 : Int) ≤ (t : Int) + 1 := by omega
        clear D wl wlt ql hv rR rQ eq1 eq2
        go_wp2_with fail
        go_region_with (first
          | (go_at_call 65; ((with_reducible refine (TQ.out _ ?_).mono ?_); rotate_left; rintro e wa ⟨Aq, nq, cq, rfl, Lq, rfl⟩; rotate_left; first | exact Below.refl _ _ | exact (Below.refl _ _).drew | exact ⟨bb.os, bb.tape, bb.output, bb.size, bb.block⟩))
          | (go_at_call 114; ((with_reducible refine (TS.out _ ?_).mono ?_); rotate_left; rintro e wb ⟨Ar, nr, cr, rfl, Lr, bb⟩; rotate_left; first | exact Below.refl _ _ | exact (Below.refl _ _).drew)))
        all_goals go_wp2_with fail
        all_goals go_ret2
        all_goals exact ⟨_, _, _, _, _, _, rfl, Lq.next bb, Lr, below_step BL.drew bb⟩
      · obtain ⟨k, rfl⟩ : ∃ k, gk = k + 1 := ⟨gk - 1, by omega⟩
        have ek : ((k + 1 : Nat) : Int) - 1 = (k : Int) := by omega
        rw [ek]
        obtain ⟨zs, zl, rz, zlt, NX⟩ := D.step hd (by omega) SL.out LS.out (by omega) (by rw [EV.out]; exact FITh.out) vpos gne (by omega) (by omega) g1 gq0
        have NX := Lib.hid NX
        have lv := D.rv.lim (o := 0) (n := t + 1) (c := t + 1 + 1) (by rw [VLn.out]; omega) (by omega) (by omega)
        rw [List.drop_zero] at lv
        have tn : ∀ h : t + 1 - 1 < (vs.take (t + 1)).length, (vs.take (t + 1))[t + 1 - 1] ≠ 0 := by
          intro h
          have := top_ne (vs := vs.take (t + 1)) (m := t) (by simp [VLn.out]) (LV.out.take _) (by rw [EV.out]; exact GEh.out)
          simpa using this
        have KT := Lib.hid (fun c2 (hc2 : t + 1 + 1 ≤ c2) => takeOut_any (o := k) (c := c2) (cb := t + 1 + 1) rz lv (by rw [zl]; omega) (by omega) (by omega) (fun ad' e _ => by injection e with e; subst e; exact gne.symm) vpos tn zlt hc2)
        have i1 : (k : Int) < d := by omega
        have i0 : (0 : Int) ≤ k := by omega
        have i2 : (k : Int) + ((t : Int) + 1) + 1 ≤ (n : Int) + 1 := by omega
        have i3 : (k : Int) ≤ (k : Int) + ((t : Int) + 1) + 1 := by omega
        have i4 : ¬ n + 1 = k := by omega
        clear D ek zlt lv tn rz
        go_wp2_with fail
        have es : k + (t + 1) + 1 - k = t + 1 + 1 := by omega
        rw [es]
        refine (KT.out _ (by omega)).mono ?_
        intro e w2 he
        obtain ⟨q, qb, rfl, cq, fq, D2⟩ := NX.out e w2 he
        have D2 := Lib.hid D2
        clear he
        go_wp2_with fail
        go_roundg k
        case measure => omega
        case rel =>
          go_light
          exact ⟨by omega, rfl, D2.out⟩
end Go.Proofs.YtnacokogihanoaaDoor
