/- The walk of takeOut. -/
import Derived.Test.YtnacokogihanoaaDoorWalkJ
import Derived.BigRegion
namespace Go.Proofs.YtnacokogihanoaaDoor
open Go.RowKit
set_option linter.unusedVariables false
set_option linter.unusedSimpArgs false

theorem guess_ge {P U V lu lv u v q : Nat} (hU : U = lu + P * u) (hV : V = lv + P * v) (hl : lu < P) (hq : q * V ≤ U) : q * v ≤ u := by
  apply Decidable.byContradiction
  intro h
  have h1 : u + 1 ≤ q * v := by omega
  have h2 : P * (u + 1) ≤ P * (q * v) := Nat.mul_le_mul_left _ h1
  have h3 : P * (q * v) ≤ q * V := by
    rw [hV, Nat.mul_add, ← Nat.mul_left_comm]
    omega
  rw [Nat.mul_add] at h2
  omega
/-- What is in the loop of takeOut. -/
structure Out (w : World) (g o : Nat) (zs : List Nat) (m U V G : Nat) (d : Bool) (wr : World) : Prop where
  ss : ∃ ss, ss.length = m + 1 ∧ Lo ss ∧ val ss + V * G = U + (if d = true then B ^ (m + 1) else 0) ∧ Row wr g (zs.take o ++ ss ++ zs.drop (o + (m + 1)))
  ge : U / V ≤ G
  lt : G < 4294967296
  t : Turn w wr g
/-- What takeOut leaves. -/
def RetO (w : World) (g o : Nat) (zs : List Nat) (m U V : Nat) (e : Ending) (w' : World) : Prop := ∃ ss, e = .returned (lv (U / V)) ∧ ss.length = m + 1 ∧ val ss = U % V ∧ Row w' g (zs.take o ++ ss ++ zs.drop (o + (m + 1))) ∧ Turn w w' g

theorem Out.done {w : World} {g o : Nat} {zs : List Nat} {m U V G : Nat} {wr : World} (h : Out w g o zs m U V G false wr) (hV : 0 < V) : G = U / V ∧ ∃ ss, ss.length = m + 1 ∧ val ss = U % V ∧ Row wr g (zs.take o ++ ss ++ zs.drop (o + (m + 1))) := by
  obtain ⟨ss, hl, lo, hv, r⟩ := h.ss
  have hge := h.ge
  simp only [Bool.false_eq_true, if_false, Nat.add_zero] at hv
  have h1 : G ≤ U / V := (Nat.le_div_iff_mul_le hV).2 (by rw [Nat.mul_comm]; omega)
  have e : G = U / V := by omega
  refine ⟨e, ss, hl, ?_, r⟩
  have := Nat.div_add_mod U V
  rw [← e] at this
  omega
theorem Out.pos {w : World} {g o : Nat} {zs : List Nat} {m U V G : Nat} {wr : World} (h : Out w g o zs m U V G true wr) (hV : 0 < V) : U / V < G := by
  obtain ⟨ss, hl, lo, hv, r⟩ := h.ss
  have l := val_lt lo
  rw [hl] at l
  simp only [if_true] at hv
  rw [Nat.div_lt_iff_lt_mul hV, Nat.mul_comm]
  omega
theorem take_all (zs ss : List Nat) (o m : Nat) (ho : o ≤ zs.length) (hl : ss.length = m + 1) : (zs.take o ++ ss ++ zs.drop (o + (m + 1))).take o = zs.take o ∧ (zs.take o ++ ss ++ zs.drop (o + (m + 1))).drop (o + m) = ss.drop m ++ zs.drop (o + (m + 1)) ∧ ((zs.take o ++ ss ++ zs.drop (o + (m + 1))).drop o).take m = ss.take m := by
  have lt : (zs.take o).length = o := by simp; omega
  refine ⟨?_, ?_, ?_⟩
  · rw [List.append_assoc, List.take_append_of_le_length (by omega), List.take_of_length_le (by omega)]
  · rw [List.append_assoc, List.drop_append, List.drop_of_length_le (by omega), List.nil_append, lt, Nat.add_sub_cancel_left, List.drop_append_of_le_length (by omega)]
  · rw [List.append_assoc, List.drop_append, List.drop_of_length_le (by omega), List.nil_append, lt, Nat.sub_self, List.drop_zero, List.take_append_of_le_length (by omega)]
theorem beq_dec (k : Nat) : ((k : Int) == 0) = decide (k = 0) := by rw [Bool.eq_iff_iff]; simp
theorem carry_le {z k : Nat} (h : z < 4294967296) (hk : k ≤ 1) : (z + k) / 4294967296 ≤ 1 := by omega
theorem Out.back {w : World} {g o : Nat} {zs ys : List Nat} {m U V G k : Nat} {wr w1 : World} {ss : List Nat} (h : Out w g o zs m U V G true wr) (hV : 0 < V) (hy : val ys = V) (hyl : ys.length = m) (ho : o + m < zs.length)
    (hl : ss.length = m + 1) (lo : Lo ss) (hv : val ss + V * G = U + B ^ (m + 1))
    (S : Sum wr g o (zs.take o ++ ss ++ zs.drop (o + (m + 1))) (ss.take m) ys m k w1) :
    ∃ z, z < 4294967296 ∧ w1.cell? ⟨g, o + m, none⟩ = some (lv z) ∧ w1.frozen? ⟨g, o + m, none⟩ = false ∧ (z + k) / 4294967296 ≤ 1 ∧
      Out w g o zs m U V (G - 1) (decide ((z + k) / 4294967296 = 0)) (w1.setCell ⟨g, o + m, none⟩ (lv ((z + k) % 4294967296))) := by
  obtain ⟨ts, tl, tlo, tv, tr⟩ := S.ss
  obtain ⟨q1, q2, q3⟩ := take_all zs ss o m (by omega) hl
  rw [q1, q2] at tr
  have hm : m < ss.length := by omega
  have ed : ss.drop m = [ss[m]] := by
    rw [List.drop_eq_getElem_cons hm, List.drop_eq_nil_of_le (show ss.length ≤ m + 1 by omega)]
  rw [ed] at tr
  have k1 := S.k1
  have zb := lo.at_ m hm
  have gp := h.pos hV
  have lth := h.lt
  have lz : (zs.take o).length = o := by simp; omega
  rw [List.take_of_length_le (show (ss.take m).length ≤ m by simp; omega), List.take_of_length_le (show ys.length ≤ m by omega), hy] at tv
  have sv : val ss = val (ss.take m) + B ^ m * ss[m] := by
    have := val_take_succ ss m hm
    rwa [List.take_of_length_le (by omega)] at this
  refine ⟨ss[m], zb, tr.cell' ?_, tr.melt _, carry_le zb k1, ⟨ts ++ [(ss[m] + k) % 4294967296], by simp [tl], tlo.append (.cons (Nat.mod_lt _ (by decide)) .nil), ?_, ?_⟩, Nat.le_sub_one_of_lt gp, Nat.lt_of_le_of_lt (Nat.sub_le _ _) lth, (h.t.trans S.t).setCell _ _⟩
  · rw [List.getElem?_append_right (by simp; omega), List.length_append, lz, tl, Nat.sub_self]; rfl
  · have e2 : ss[m] + k = (ss[m] + k) % 4294967296 + 4294967296 * ((ss[m] + k) / 4294967296) := by omega
    have e3 : B ^ m * (ss[m] + k) = B ^ m * ((ss[m] + k) % 4294967296) + B ^ (m + 1) * ((ss[m] + k) / 4294967296) := by
      conv => lhs; rw [e2, Nat.mul_add, ← Nat.mul_assoc]
      rw [Nat.pow_succ, show B ^ m * B = B ^ m * 4294967296 by rw [B_eq]]
    rw [Nat.mul_add] at e3
    have e4 : V * G = V * (G - 1) + V := by
      conv => lhs; rw [← Nat.sub_add_cancel (show 1 ≤ G from Nat.lt_of_le_of_lt (Nat.zero_le _) gp), Nat.mul_add, Nat.mul_one]
    rw [val_snoc, tl]
    have c : (ss[m] + k) / 4294967296 = 0 ∨ (ss[m] + k) / 4294967296 = 1 := by omega
    rcases c with c | c
    · rw [c, Nat.mul_zero, Nat.add_zero] at e3
      rw [c]
      simp only [decide_true, if_true]
      omega
    · rw [c, Nat.mul_one] at e3
      rw [c]
      simp only [show decide ((1 : Nat) = 0) = false from rfl, Bool.false_eq_true, if_false]
      omega
  · have := tr.set_ (o + m) ((ss[m] + k) % 4294967296) (Nat.mod_lt _ (by decide))
    rw [show zs.take o ++ ts ++ ([ss[m]] ++ zs.drop (o + (m + 1))) = zs.take o ++ ts ++ (ss[m] :: zs.drop (o + (m + 1))) from rfl, set_mid _ _ _ _ o m lz tl] at this
    exact this
/-- What takeTimes leaves is what the loop begins with. -/
theorem Tak.out {w : World} {g o : Nat} {zs ys : List Nat} {f m b U V : Nat} {w1 : World} (h : Tak w g o zs ys f (m + 1) 0 b w1) (hy : val ys = V) (hyl : ys.length = m) (hU : U = val ((zs.drop o).take (m + 1))) (hge : U / V ≤ f) (hf : f < 4294967296) :
    Out w g o zs m U V f ((b : Int) != 0) w1 := by
  obtain ⟨ss, hl, lo, hv, r⟩ := h.ss
  have hb := h.bb
  refine ⟨⟨ss, hl, lo, ?_, r⟩, hge, hf, h.t⟩
  rw [List.take_of_length_le (by omega), hy, ← hU, Nat.zero_add] at hv
  rw [hv]
  have c : b = 0 ∨ b = 1 := by omega
  rcases c with rfl | rfl
  · rw [Nat.mul_zero, if_neg (by decide)]
  · rw [Nat.mul_one, if_pos (by decide)]

theorem top_two (zs : List Nat) (o m : Nat) (hm : 0 < m) (hz : o + m < zs.length) :
    val ((zs.drop o).take (m + 1)) = val ((zs.drop o).take (m - 1)) + B ^ (m - 1) * (zs[o + (m - 1)] + B * zs[o + m]) := by
  have h1 := val_take_succ (zs.drop o) m (by simp; omega)
  have h2 := val_take_succ (zs.drop o) (m - 1) (by simp; omega)
  rw [List.getElem_drop] at h1 h2
  rw [Nat.sub_add_cancel hm] at h2
  have e : B ^ m = B ^ (m - 1) * B := by rw [← Nat.pow_succ]; congr 1; omega
  rw [h1, h2, e, Nat.mul_add, Nat.mul_assoc, Nat.add_assoc]
theorem top_one (ys : List Nat) (m : Nat) (hm : 0 < m) (hy : ys.length = m) : val ys = val (ys.take (m - 1)) + B ^ (m - 1) * ys[m - 1] := by
  have h2 := val_take_succ ys (m - 1) (by omega)
  rw [Nat.sub_add_cancel hm, List.take_of_length_le (by omega)] at h2
  exact h2
theorem guess_ok (zs ys : List Nat) (o m : Nat) (hm : 0 < m) (hz : o + m < zs.length) (lz : Lo zs) (hy : ys.length = m) (hv : 0 < val ys) (hy1 : ys[m - 1] ≠ 0) (hlt : val ((zs.drop (o + 1)).take m) < val ys) :
    val ((zs.drop o).take (m + 1)) / val ys ≤ min ((zs[o + m] * 4294967296 + zs[o + (m - 1)]) / ys[m - 1]) 4294967295 := by
  have hU := top_two zs o m hm hz
  have hV := top_one ys m hm hy
  have hl : val ((zs.drop o).take (m - 1)) < B ^ (m - 1) := by
    have := val_lt ((lz.drop o).take (m - 1))
    rwa [List.length_take, List.length_drop, Nat.min_eq_left (by omega)] at this
  have hq := guess_ge hU hV hl (Nat.div_mul_le_self _ _)
  refine Nat.le_min.2 ⟨?_, ?_⟩
  · rw [Nat.le_div_iff_mul_le (by omega)]
    rw [B_eq] at hq
    omega
  · have e : (zs.drop o).take (m + 1) = zs[o] :: (zs.drop (o + 1)).take m := by
      rw [List.drop_eq_getElem_cons (by omega), List.take_succ_cons]
    have z0 := lz.at_ o (by omega)
    have : val ((zs.drop o).take (m + 1)) < 4294967296 * val ys := by
      rw [e, val_cons, B_eq]
      have : 4294967296 * (val ((zs.drop (o + 1)).take m) + 1) ≤ 4294967296 * val ys := Nat.mul_le_mul_left _ hlt
      omega
    have := (Nat.div_lt_iff_lt_mul hv).2 this
    omega

set_option maxHeartbeats 4000000 in
set_option maxRecDepth 100000 in
theorem takeOut_any {A : Option Addr} {g o c m cb : Nat} {zs ys : List Nat} {w : World} (hr : Row w g zs) (hy : Lim w A m cb ys) (hz : o + m < zs.length) (hm : m ≤ 1000) (hm0 : 0 < m) (hne : ∀ ad, A = some ad → 0 < m → ad.block ≠ g)
    (hv : 0 < val ys) (hy1 : ∀ h : m - 1 < ys.length, ys[m - 1] ≠ 0) (hlt : val ((zs.drop (o + 1)).take m) < val ys) (hc : m + 1 ≤ c) :
    Calls Tryd.prog 113 #[.slice (some ⟨g, o, none⟩) (m + 1) c, .slice A m cb] w fun e w' => RetO w g o zs m (val ((zs.drop o).take (m + 1))) (val ys) e w' := by
  obtain ⟨t, rfl⟩ : ∃ t, m = t + 1 := ⟨m - 1, by omega⟩
  have hyl := hy.len
  have GO := guess_ok zs ys o (t + 1) hm0 hz hr.lo hyl hv (hy1 (by omega)) hlt
  simp only [Nat.add_sub_cancel] at GO
  obtain ⟨ad, rfl⟩ := hy.some_ hm0
  have c1 := hy.cell t (by omega)
  have c2 := hr.cell (o + t) (by omega)
  have c3 := hr.cell (o + (t + 1)) hz
  have b1 := hy.lo.at_ t (by omega)
  have b2 := hr.lo.at_ (o + t) (by omega)
  have b3 := hr.lo.at_ (o + (t + 1)) hz
  have nz := hy1 (by omega)
  simp only [Nat.add_sub_cancel] at nz
  have HR := Lib.hid hr; have HY := Lib.hid hy; have HNE := Lib.hid hne; have HV := Lib.hid hv
  generalize ys[t]'(by omega) = y at *
  generalize zs[o + t]'(by omega) = z0 at *
  generalize zs[o + (t + 1)]'hz = z1 at *
  obtain ⟨U, hU⟩ : ∃ U, val ((zs.drop o).take (t + 1 + 1)) = U := ⟨_, rfl⟩
  obtain ⟨V, hV⟩ : ∃ V, val ys = V := ⟨_, rfl⟩
  rw [hU, hV] at GO ⊢
  have GQ := Lib.hid GO
  clear GO
  have HU := Lib.hid hU; have HVV := Lib.hid hV
  have HYL := Lib.hid hyl
  clear hr hy hne hv hy1 hlt hU hV hyl
  have t0 : (0 : Int) ≤ t := by omega
  have t1 : (t : Int) < (t : Int) + 1 + 1 := by omega
  have t2 : (t : Int) < (t : Int) + 1 := by omega
  have t3 : (t : Int) + 1 < (t : Int) + 1 + 1 := by omega
  have ny : ((y : Int) == 0) = false := by simpa using nz
  have E1 : Hid (min (IntKind.u64.wrap ((bits BinOp.or IntKind.u64 ((z1 : Int) * 4294967296) (z0 : Int)).tdiv (y : Int))) 4294967295 = ((min ((z1 * 4294967296 + z0) / y) 4294967295 : Nat) : Int)) := by
    unfold Hid
    have e2 : ((z1 * 4294967296 + z0 : Nat) : Int) = (z1 : Int) * 4294967296 + (z0 : Int) := by omega
    have k : (z1 * 4294967296 + z0) / y ≤ z1 * 4294967296 + z0 := Nat.div_le_self _ _
    rw [u64_or_up z1 z0 b3 b2, ← e2, ← Int.ofNat_tdiv, IntKind.wrap_u64]
    generalize (z1 * 4294967296 + z0) / y = q at *
    omega
  have fl : min ((z1 * 4294967296 + z0) / y) 4294967295 ≤ 4294967295 := Nat.min_le_right _ _
  go_enter Tryd.func113, Tryd.ntmps113
  go_wp2_with fail
  go_quiet (fail)
  go_wp2_with fail
  rw [E1.out]
  generalize min ((z1 * 4294967296 + z0) / y) 4294967295 = f at *
  have fb : f < 4294967296 := by omega
  clear E1 c1 c2 c3
  refine (takeTimes_any (f := f) (HR.out.drewN nq) (HY.out.drewN nq) hz hm HNE.out fb).mono ?_
  rintro e w1 ⟨b, rfl, T⟩
  have O0 := T.out HVV.out HYL.out HU.out.symm GQ.out fb
  generalize ((b : Int) != 0) = d at *
  have O : Out w g o zs (t + 1) U V f d w1 := ⟨O0.ss, O0.ge, O0.lt, ⟨O0.t.os, O0.t.tape, O0.t.output, O0.t.size, O0.t.block⟩⟩
  clear T fl GQ O0
  go_wp2_with fail
  go_loopg [6, 7, 8] f (fun q s6 s7 _ wr => ∃ d, s6 = .int .u64 (q : Int) ∧ s7 = .bool d ∧ Out w g o zs (t + 1) U V q d wr)
  case atStart => exact ⟨d, rfl, rfl, O⟩
  case round =>
    clear O
    obtain ⟨d, rfl, rfl, O⟩ := hrel
    have hVp : 0 < V := by rw [← HVV.out]; exact HV.out
    have gl := O.lt
    cases d with
    | false =>
      obtain ⟨eG, ss, sl, sv, R⟩ := O.done hVp
      have R := Lib.hid R; have SL := Lib.hid sl; have SV := Lib.hid sv; have EG := Lib.hid eG; have TT := Lib.hid O.t
      clear O sl sv eG
      go_wp2_with fail
      go_ret
      exact ⟨ss, by rw [← EG.out]; rfl, SL.out, SV.out, R.out, TT.out⟩
    | true =>
      have gp := Nat.lt_of_le_of_lt (Nat.zero_le _) (O.pos hVp)
      obtain ⟨ss, sl, slo, sv, R⟩ := O.ss
      simp only [if_true] at sv
      obtain ⟨q1, q2, q3⟩ := take_all zs ss o (t + 1) (by omega) sl
      have hlen : (zs.take o ++ ss ++ zs.drop (o + (t + 1 + 1))).length = zs.length := by simp; omega
      have SRC : Src wr g o (zs.take o ++ ss ++ zs.drop (o + (t + 1 + 1))) (some ⟨g, o, none⟩) (ss.take (t + 1)) := by
        have := Src.same (w := wr) (g := g) (o := o) (n := t + 1) (zs := zs.take o ++ ss ++ zs.drop (o + (t + 1 + 1))) (by omega)
        rwa [q3] at this
      have KA := Lib.hid (addInto_any (ns := t + 1 + 1) (cs := c) (n := t + 1) (c := c) (c' := cb) R SRC (slo.take _) (by simp; omega) (turn_lim O.t HY.out HNE.out) (by omega) (by omega) (Nat.le_refl _) hm HNE.out)
      have BK : Hid (∀ k w2, Sum wr g o (zs.take o ++ ss ++ zs.drop (o + (t + 1 + 1))) (ss.take (t + 1)) ys (t + 1) k w2 → _) := fun k w2 S => O.back hVp HVV.out HYL.out hz sl slo sv S
      have SV := Lib.hid sv
      have gp2 : (1 : Int) ≤ gk := by omega
      have hc1 : (t : Int) + 1 ≤ c := by omega
      clear q1 q2 q3 SRC R O sl slo sv
      go_wp2_with fail
      refine KA.out.mono ?_
      rintro e w2 ⟨k, rfl, S⟩
      have k1 := S.k1
      obtain ⟨z, zb, c4, f4, l4, O2⟩ := BK.out k w2 S
      have O2 := Lib.hid O2
      have KB := Lib.hid (add32 z 0 k zb (by omega) k1)
      rw [Nat.add_zero] at KB
      generalize (z + k) % 4294967296 = v at *
      generalize (z + k) / 4294967296 = k2 at *
      clear S
      have t3 : (t : Int) + 1 < (t : Int) + 1 + 1 := by omega
      go_wp2_with fail
      refine (KB.out _).mono ?_
      rintro e w3 ⟨rfl, rfl⟩
      go_wp2_with fail
      go_roundg (gk - 1)
      case measure => omega
      case rel =>
        go_light
        refine ⟨decide (k2 = 0), congrArg (Value.int .u64) (by omega), congrArg Value.bool (beq_dec k2), O2.out⟩
end Go.Proofs.YtnacokogihanoaaDoor
