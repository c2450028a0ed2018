/- The walk of takeOut. Plain arithmetic of long division. The walk of divLong. The walks of Clone, divide, Div. -/
import Derived.Test.YtdnikdocfbbkkaaDoorJ02
import Derived.BigRegion
import Derived.Test.YtdnikdocfbbkkaaDoorJ00
import Derived.Lib.SliceRun
namespace Go.Proofs.YtdnikdocfbbkkaaDoor
open Go.RowKit
set_option linter.unusedVariables false
set_option linter.unusedSimpArgs false

theorem guess_ge {P U V lu lv u v q : Nat} (hU : U = lu + P * u) (hV : V = lv + P * v) (hl : lu < P) (hq : q * V ≤ U) : q * v ≤ u := by
  apply Decidable.byContradiction
  intro h
  have h1 : u + 1 ≤ q * v := by omega
  have h2 : P * (u + 1) ≤ P * (q * v) := Nat.mul_le_mul_left _ h1
  have h3 : P * (q * v) ≤ q * V := by
    rw [hV, Nat.mul_add, ← Nat.mul_left_comm]
    omega
  rw [Nat.mul_add] at h2
  omega
/-- What is in the loop of takeOut. -/
structure Out (w : World) (g o : Nat) (zs : List Nat) (m U V G : Nat) (d : Bool) (wr : World) : Prop where
  ss : ∃ ss, ss.length = m + 1 ∧ Lo ss ∧ val ss + V * G = U + (if d = true then B ^ (m + 1) else 0) ∧ Row wr g (zs.take o ++ ss ++ zs.drop (o + (m + 1)))
  ge : U / V ≤ G
  lt : G < 4294967296
  t : Turn w wr g
/-- What takeOut leaves. -/
def RetO (w : World) (g o : Nat) (zs : List Nat) (m U V : Nat) (e : Ending) (w' : World) : Prop := ∃ ss, e = .returned (lv (U / V)) ∧ ss.length = m + 1 ∧ val ss = U % V ∧ Row w' g (zs.take o ++ ss ++ zs.drop (o + (m + 1))) ∧ Turn w w' g

theorem Out.done {w : World} {g o : Nat} {zs : List Nat} {m U V G : Nat} {wr : World} (h : Out w g o zs m U V G false wr) (hV : 0 < V) : G = U / V ∧ ∃ ss, ss.length = m + 1 ∧ val ss = U % V ∧ Row wr g (zs.take o ++ ss ++ zs.drop (o + (m + 1))) := by
  obtain ⟨ss, hl, lo, hv, r⟩ := h.ss
  have hge := h.ge
  simp only [Bool.false_eq_true, if_false, Nat.add_zero] at hv
  have h1 : G ≤ U / V := (Nat.le_div_iff_mul_le hV).2 (by rw [Nat.mul_comm]; omega)
  have e : G = U / V := by omega
  refine ⟨e, ss, hl, ?_, r⟩
  have := Nat.div_add_mod U V
  rw [← e] at this
  omega
theorem Out.pos {w : World} {g o : Nat} {zs : List Nat} {m U V G : Nat} {wr : World} (h : Out w g o zs m U V G true wr) (hV : 0 < V) : U / V < G := by
  obtain ⟨ss, hl, lo, hv, r⟩ := h.ss
  have l := val_lt lo
  rw [hl] at l
  simp only [if_true] at hv
  rw [Nat.div_lt_iff_lt_mul hV, Nat.mul_comm]
  omega
theorem take_all (zs ss : List Nat) (o m : Nat) (ho : o ≤ zs.length) (hl : ss.length = m + 1) : (zs.take o ++ ss ++ zs.drop (o + (m + 1))).take o = zs.take o ∧ (zs.take o ++ ss ++ zs.drop (o + (m + 1))).drop (o + m) = ss.drop m ++ zs.drop (o + (m + 1)) ∧ ((zs.take o ++ ss ++ zs.drop (o + (m + 1))).drop o).take m = ss.take m := by
  have lt : (zs.take o).length = o := by simp; omega
  refine ⟨?_, ?_, ?_⟩
  · rw [List.append_assoc, List.take_append_of_le_length (by omega), List.take_of_length_le (by omega)]
  · rw [List.append_assoc, List.drop_append, List.drop_of_length_le (by omega), List.nil_append, lt, Nat.add_sub_cancel_left, List.drop_append_of_le_length (by omega)]
  · rw [List.append_assoc, List.drop_append, List.drop_of_length_le (by omega), List.nil_append, lt, Nat.sub_self, List.drop_zero, List.take_append_of_le_length (by omega)]
theorem beq_dec (k : Nat) : ((k : Int) == 0) = decide (k = 0) := by rw [Bool.eq_iff_iff]; simp
theorem carry_le {z k : Nat} (h : z < 4294967296) (hk : k ≤ 1) : (z + k) / 4294967296 ≤ 1 := by omega
theorem Out.back {w : World} {g o : Nat} {zs ys : List Nat} {m U V G k : Nat} {wr w1 : World} {ss : List Nat} (h : Out w g o zs m U V G true wr) (hV : 0 < V) (hy : val ys = V) (hyl : ys.length = m) (ho : o + m < zs.length)
    (hl : ss.length = m + 1) (lo : Lo ss) (hv : val ss + V * G = U + B ^ (m + 1))
    (S : Sum wr g o (zs.take o ++ ss ++ zs.drop (o + (m + 1))) (ss.take m) ys m k w1) :
    ∃ z, z < 4294967296 ∧ w1.cell? ⟨g, o + m, none⟩ = some (lv z) ∧ w1.frozen? ⟨g, o + m, none⟩ = false ∧ (z + k) / 4294967296 ≤ 1 ∧
      Out w g o zs m U V (G - 1) (decide ((z + k) / 4294967296 = 0)) (w1.setCell ⟨g, o + m, none⟩ (lv ((z + k) % 4294967296))) := by
  obtain ⟨ts, tl, tlo, tv, tr⟩ := S.ss
  obtain ⟨q1, q2, q3⟩ := take_all zs ss o m (by omega) hl
  rw [q1, q2] at tr
  have hm : m < ss.length := by omega
  have ed : ss.drop m = [ss[m]] := by
    rw [List.drop_eq_getElem_cons hm, List.drop_eq_nil_of_le (show ss.length ≤ m + 1 by omega)]
  rw [ed] at tr
  have k1 := S.k1
  have zb := lo.at_ m hm
  have gp := h.pos hV
  have lth := h.lt
  have lz : (zs.take o).length = o := by simp; omega
  rw [List.take_of_length_le (show (ss.take m).length ≤ m by simp; omega), List.take_of_length_le (show ys.length ≤ m by omega), hy] at tv
  have sv : val ss = val (ss.take m) + B ^ m * ss[m] := by
    have := val_take_succ ss m hm
    rwa [List.take_of_length_le (by omega)] at this
  refine ⟨ss[m], zb, tr.cell' ?_, tr.melt _, carry_le zb k1, ⟨ts ++ [(ss[m] + k) % 4294967296], by simp [tl], tlo.append (.cons (Nat.mod_lt _ (by decide)) .nil), ?_, ?_⟩, Nat.le_sub_one_of_lt gp, Nat.lt_of_le_of_lt (Nat.sub_le _ _) lth, (h.t.trans S.t).setCell _ _⟩
  · rw [List.getElem?_append_right (by simp; omega), List.length_append, lz, tl, Nat.sub_self]; rfl
  · have e2 : ss[m] + k = (ss[m] + k) % 4294967296 + 4294967296 * ((ss[m] + k) / 4294967296) := by omega
    have e3 : B ^ m * (ss[m] + k) = B ^ m * ((ss[m] + k) % 4294967296) + B ^ (m + 1) * ((ss[m] + k) / 4294967296) := by
      conv => lhs; rw [e2, Nat.mul_add, ← Nat.mul_assoc]
      rw [Nat.pow_succ, show B ^ m * B = B ^ m * 4294967296 by rw [B_eq]]
    rw [Nat.mul_add] at e3
    have e4 : V * G = V * (G - 1) + V := by
      conv => lhs; rw [← Nat.sub_add_cancel (show 1 ≤ G from Nat.lt_of_le_of_lt (Nat.zero_le _) gp), Nat.mul_add, Nat.mul_one]
    rw [val_snoc, tl]
    have c : (ss[m] + k) / 4294967296 = 0 ∨ (ss[m] + k) / 4294967296 = 1 := by omega
    rcases c with c | c
    · rw [c, Nat.mul_zero, Nat.add_zero] at e3
      rw [c]
      simp only [decide_true, if_true]
      omega
    · rw [c, Nat.mul_one] at e3
      rw [c]
      simp only [show decide ((1 : Nat) = 0) = false from rfl, Bool.false_eq_true, if_false]
      omega
  · have := tr.set_ (o + m) ((ss[m] + k) % 4294967296) (Nat.mod_lt _ (by decide))
    rw [show zs.take o ++ ts ++ ([ss[m]] ++ zs.drop (o + (m + 1))) = zs.take o ++ ts ++ (ss[m] :: zs.drop (o + (m + 1))) from rfl, set_mid _ _ _ _ o m lz tl] at this
    exact this
/-- What takeTimes leaves is what the loop begins with. -/
theorem Tak.out {w : World} {g o : Nat} {zs ys : List Nat} {f m b U V : Nat} {w1 : World} (h : Tak w g o zs ys f (m + 1) 0 b w1) (hy : val ys = V) (hyl : ys.length = m) (hU : U = val ((zs.drop o).take (m + 1))) (hge : U / V ≤ f) (hf : f < 4294967296) :
    Out w g o zs m U V f ((b : Int) != 0) w1 := by
  obtain ⟨ss, hl, lo, hv, r⟩ := h.ss
  have hb := h.bb
  refine ⟨⟨ss, hl, lo, ?_, r⟩, hge, hf, h.t⟩
  rw [List.take_of_length_le (by omega), hy, ← hU, Nat.zero_add] at hv
  rw [hv]
  have c : b = 0 ∨ b = 1 := by omega
  rcases c with rfl | rfl
  · rw [Nat.mul_zero, if_neg (by decide)]
  · rw [Nat.mul_one, if_pos (by decide)]

theorem top_two (zs : List Nat) (o m : Nat) (hm : 0 < m) (hz : o + m < zs.length) :
    val ((zs.drop o).take (m + 1)) = val ((zs.drop o).take (m - 1)) + B ^ (m - 1) * (zs[o + (m - 1)] + B * zs[o + m]) := by
  have h1 := val_take_succ (zs.drop o) m (by simp; omega)
  have h2 := val_take_succ (zs.drop o) (m - 1) (by simp; omega)
  rw [List.getElem_drop] at h1 h2
  rw [Nat.sub_add_cancel hm] at h2
  have e : B ^ m = B ^ (m - 1) * B := by rw [← Nat.pow_succ]; congr 1; omega
  rw [h1, h2, e, Nat.mul_add, Nat.mul_assoc, Nat.add_assoc]
theorem top_one (ys : List Nat) (m : Nat) (hm : 0 < m) (hy : ys.length = m) : val ys = val (ys.take (m - 1)) + B ^ (m - 1) * ys[m - 1] := by
  have h2 := val_take_succ ys (m - 1) (by omega)
  rw [Nat.sub_add_cancel hm, List.take_of_length_le (by omega)] at h2
  exact h2
theorem guess_ok (zs ys : List Nat) (o m : Nat) (hm : 0 < m) (hz : o + m < zs.length) (lz : Lo zs) (hy : ys.length = m) (hv : 0 < val ys) (hy1 : ys[m - 1] ≠ 0) (hlt : val ((zs.drop (o + 1)).take m) < val ys) :
    val ((zs.drop o).take (m + 1)) / val ys ≤ min ((zs[o + m] * 4294967296 + zs[o + (m - 1)]) / ys[m - 1]) 4294967295 := by
  have hU := top_two zs o m hm hz
  have hV := top_one ys m hm hy
  have hl : val ((zs.drop o).take (m - 1)) < B ^ (m - 1) := by
    have := val_lt ((lz.drop o).take (m - 1))
    rwa [List.length_take, List.length_drop, Nat.min_eq_left (by omega)] at this
  have hq := guess_ge hU hV hl (Nat.div_mul_le_self _ _)
  refine Nat.le_min.2 ⟨?_, ?_⟩
  · rw [Nat.le_div_iff_mul_le (by omega)]
    rw [B_eq] at hq
    omega
  · have e : (zs.drop o).take (m + 1) = zs[o] :: (zs.drop (o + 1)).take m := by
      rw [List.drop_eq_getElem_cons (by omega), List.take_succ_cons]
    have z0 := lz.at_ o (by omega)
    have : val ((zs.drop o).take (m + 1)) < 4294967296 * val ys := by
      rw [e, val_cons, B_eq]
      have : 4294967296 * (val ((zs.drop (o + 1)).take m) + 1) ≤ 4294967296 * val ys := Nat.mul_le_mul_left _ hlt
      omega
    have := (Nat.div_lt_iff_lt_mul hv).2 this
    omega

set_option maxHeartbeats 4000000 in
set_option maxRecDepth 100000 in
theorem takeOut_any {A : Option Addr} {g o c m cb : Nat} {zs ys : List Nat} {w : World} (hr : Row w g zs) (hy : Lim w A m cb ys) (hz : o + m < zs.length) (hm : m ≤ 1000) (hm0 : 0 < m) (hne : ∀ ad, A = some ad → 0 < m → ad.block ≠ g)
    (hv : 0 < val ys) (hy1 : ∀ h : m - 1 < ys.length, ys[m - 1] ≠ 0) (hlt : val ((zs.drop (o + 1)).take m) < val ys) (hc : m + 1 ≤ c) :
    Calls Tryd.prog 138 #[.slice (some ⟨g, o, none⟩) (m + 1) c, .slice A m cb] w fun e w' => RetO w g o zs m (val ((zs.drop o).take (m + 1))) (val ys) e w' := by
  obtain ⟨t, rfl⟩ : ∃ t, m = t + 1 := ⟨m - 1, by omega⟩
  have hyl := hy.len
  have GO := guess_ok zs ys o (t + 1) hm0 hz hr.lo hyl hv (hy1 (by omega)) hlt
  simp only [Nat.add_sub_cancel] at GO
  obtain ⟨ad, rfl⟩ := hy.some_ hm0
  have c1 := hy.cell t (by omega)
  have c2 := hr.cell (o + t) (by omega)
  have c3 := hr.cell (o + (t + 1)) hz
  have b1 := hy.lo.at_ t (by omega)
  have b2 := hr.lo.at_ (o + t) (by omega)
  have b3 := hr.lo.at_ (o + (t + 1)) hz
  have nz := hy1 (by omega)
  simp only [Nat.add_sub_cancel] at nz
  have HR := Lib.hid hr; have HY := Lib.hid hy; have HNE := Lib.hid hne; have HV := Lib.hid hv
  generalize ys[t]'(by omega) = y at *
  generalize zs[o + t]'(by omega) = z0 at *
  generalize zs[o + (t + 1)]'hz = z1 at *
  obtain ⟨U, hU⟩ : ∃ U, val ((zs.drop o).take (t + 1 + 1)) = U := ⟨_, rfl⟩
  obtain ⟨V, hV⟩ : ∃ V, val ys = V := ⟨_, rfl⟩
  rw [hU, hV] at GO ⊢
  have GQ := Lib.hid GO
  clear GO
  have HU := Lib.hid hU; have HVV := Lib.hid hV
  have HYL := Lib.hid hyl
  clear hr hy hne hv hy1 hlt hU hV hyl
  have t0 : (0 : Int) ≤ t := by omega
  have t1 : (t : Int) < (t : Int) + 1 + 1 := by omega
  have t2 : (t : Int) < (t : Int) + 1 := by omega
  have t3 : (t : Int) + 1 < (t : Int) + 1 + 1 := by omega
  have ny : ((y : Int) == 0) = false := by simpa using nz
  have E1 : Hid (min (IntKind.u64.wrap ((bits BinOp.or IntKind.u64 ((z1 : Int) * 4294967296) (z0 : Int)).tdiv (y : Int))) 4294967295 = ((min ((z1 * 4294967296 + z0) / y) 4294967295 : Nat) : Int)) := by
    unfold Hid
    have e2 : ((z1 * 4294967296 + z0 : Nat) : Int) = (z1 : Int) * 4294967296 + (z0 : Int) := by omega
    have k : (z1 * 4294967296 + z0) / y ≤ z1 * 4294967296 + z0 := Nat.div_le_self _ _
    rw [u64_or_up z1 z0 b3 b2, ← e2, ← Int.ofNat_tdiv, IntKind.wrap_u64]
    generalize (z1 * 4294967296 + z0) / y = q at *
    omega
  have fl : min ((z1 * 4294967296 + z0) / y) 4294967295 ≤ 4294967295 := Nat.min_le_right _ _
  go_enter Tryd.func138, Tryd.ntmps138
  go_wp2_with fail
  go_quiet (fail)
  go_wp2_with fail
  rw [E1.out]
  generalize min ((z1 * 4294967296 + z0) / y) 4294967295 = f at *
  have fb : f < 4294967296 := by omega
  clear E1 c1 c2 c3
  refine (takeTimes_any (f := f) (HR.out.drewN nq) (HY.out.drewN nq) hz hm HNE.out fb).mono ?_
  rintro e w1 ⟨b, rfl, T⟩
  have O0 := T.out HVV.out HYL.out HU.out.symm GQ.out fb
  generalize ((b : Int) != 0) = d at *
  have O : Out w g o zs (t + 1) U V f d w1 := ⟨O0.ss, O0.ge, O0.lt, ⟨O0.t.os, O0.t.tape, O0.t.output, O0.t.size, O0.t.block⟩⟩
  clear T fl GQ O0
  go_wp2_with fail
  go_loopg [6, 7, 8] f (fun q s6 s7 _ wr => ∃ d, s6 = .int .u64 (q : Int) ∧ s7 = .bool d ∧ Out w g o zs (t + 1) U V q d wr)
  case atStart => exact ⟨d, rfl, rfl, O⟩
  case round =>
    clear O
    obtain ⟨d, rfl, rfl, O⟩ := hrel
    have hVp : 0 < V := by rw [← HVV.out]; exact HV.out
    have gl := O.lt
    cases d with
    | false =>
      obtain ⟨eG, ss, sl, sv, R⟩ := O.done hVp
      have R := Lib.hid R; have SL := Lib.hid sl; have SV := Lib.hid sv; have EG := Lib.hid eG; have TT := Lib.hid O.t
      clear O sl sv eG
      go_wp2_with fail
      go_ret
      exact ⟨ss, by rw [← EG.out]; rfl, SL.out, SV.out, R.out, TT.out⟩
    | true =>
      have gp := Nat.lt_of_le_of_lt (Nat.zero_le _) (O.pos hVp)
      obtain ⟨ss, sl, slo, sv, R⟩ := O.ss
      simp only [if_true] at sv
      obtain ⟨q1, q2, q3⟩ := take_all zs ss o (t + 1) (by omega) sl
      have hlen : (zs.take o ++ ss ++ zs.drop (o + (t + 1 + 1))).length = zs.length := by simp; omega
      have SRC : Src wr g o (zs.take o ++ ss ++ zs.drop (o + (t + 1 + 1))) (some ⟨g, o, none⟩) (ss.take (t + 1)) := by
        have := Src.same (w := wr) (g := g) (o := o) (n := t + 1) (zs := zs.take o ++ ss ++ zs.drop (o + (t + 1 + 1))) (by omega)
        rwa [q3] at this
      have KA := Lib.hid (addInto_any (ns := t + 1 + 1) (cs := c) (n := t + 1) (c := c) (c' := cb) R SRC (slo.take _) (by simp; omega) (turn_lim O.t HY.out HNE.out) (by omega) (by omega) (Nat.le_refl _) hm HNE.out)
      have BK : Hid (∀ k w2, Sum wr g o (zs.take o ++ ss ++ zs.drop (o + (t + 1 + 1))) (ss.take (t + 1)) ys (t + 1) k w2 → _) := fun k w2 S => O.back hVp HVV.out HYL.out hz sl slo sv S
      have SV := Lib.hid sv
      have gp2 : (1 : Int) ≤ gk := by omega
      have hc1 : (t : Int) + 1 ≤ c := by omega
      clear q1 q2 q3 SRC R O sl slo sv
      go_wp2_with fail
      refine KA.out.mono ?_
      rintro e w2 ⟨k, rfl, S⟩
      have k1 := S.k1
      obtain ⟨z, zb, c4, f4, l4, O2⟩ := BK.out k w2 S
      have O2 := Lib.hid O2
      have KB := Lib.hid (add32 z 0 k zb (by omega) k1)
      rw [Nat.add_zero] at KB
      generalize (z + k) % 4294967296 = v at *
      generalize (z + k) / 4294967296 = k2 at *
      clear S
      have t3 : (t : Int) + 1 < (t : Int) + 1 + 1 := by omega
      go_wp2_with fail
      refine (KB.out _).mono ?_
      rintro e w3 ⟨rfl, rfl⟩
      go_wp2_with fail
      go_roundg (gk - 1)
      case measure => omega
      case rel =>
        go_light
        refine ⟨decide (k2 = 0), congrArg (Value.int .u64) (by omega), congrArg Value.bool (beq_dec k2), O2.out⟩
end Go.Proofs.YtdnikdocfbbkkaaDoor
namespace Go.Proofs.YtdnikdocfbbkkaaDoor

theorem last_zero {ss : List Nat} {m : Nat} (hl : ss.length = m + 1) (h : val ss < B ^ m) : ∃ ws, ss = ws ++ [0] ∧ ws.length = m ∧ val ws = val ss := by
  have hm : m < ss.length := by omega
  have e := val_take_succ ss m hm
  rw [List.take_of_length_le (by omega)] at e
  have z : ss[m] = 0 := by
    apply Decidable.byContradiction
    intro k
    have : B ^ m * 1 ≤ B ^ m * ss[m] := Nat.mul_le_mul_left _ (by omega)
    rw [Nat.mul_one] at this
    omega
  refine ⟨ss.take m, ?_, by simp; omega, ?_⟩
  · have := take_snoc ss m hm
    rw [List.take_of_length_le (by omega), z] at this
    exact this
  · rw [e, z, Nat.mul_zero, Nat.add_zero]
theorem div_scaled {a b Q R p : Nat} (hp : 0 < p) (hb : 0 < b) (h : a * p = Q * (b * p) + R) (hR : R < b * p) : Q = a / b ∧ R / p = a % b := by
  have hbp : 0 < b * p := Nat.mul_pos hb hp
  have e := (Nat.div_mod_unique (a := a * p) (b := b * p) (c := R) (d := Q) hbp).2 ⟨by rw [h, Nat.mul_comm (b * p) Q, Nat.add_comm], hR⟩
  rw [Nat.mul_div_mul_right _ _ hp] at e
  rw [Nat.mul_mod_mul_right] at e
  exact ⟨e.1.symm, by rw [← e.2, Nat.mul_div_cancel _ hp]⟩
theorem dlg_step {N Q R v B' x U : Nat} (h : N = Q * v + R) (hU : U = x + B' * R) : x + B' * N = (U / v + B' * Q) * v + U % v := by
  have e := Nat.div_add_mod U v
  rw [h, Nat.add_mul, Nat.mul_add, ← Nat.mul_assoc, Nat.mul_comm (U / v) v]
  omega
theorem shift_fits {b m k : Nat} (hm : m + 1 = (limbs b).length) (hs : bl ((limbs b)[m]'(by omega)) + k = 32) : b * 2 ^ k < B ^ (m + 1) := by
  have e := bl_limbs (a := b) (k := m) hm
  have l := lt_bl b
  rw [B_pow]
  have : b * 2 ^ k < 2 ^ bl b * 2 ^ k := Nat.mul_lt_mul_of_pos_right l (Nat.two_pow_pos k)
  rw [← Nat.pow_add] at this
  rw [show bl b + k = 32 * (m + 1) by omega] at this
  exact this
theorem shift_ge {b m k : Nat} (hb : b ≠ 0) (hm : m + 1 = ln b) : B ^ m ≤ b * 2 ^ k := by
  have := le_of_ln hb
  rw [← hm, Nat.add_sub_cancel] at this
  exact Nat.le_trans this (Nat.le_mul_of_pos_right _ (Nat.two_pow_pos k))
theorem top_ne {vs : List Nat} {m : Nat} (hl : vs.length = m + 1) (lo : Lo vs) (h : B ^ m ≤ val vs) : vs[m] ≠ 0 := by
  intro z
  have e := val_take_succ vs m (by omega)
  rw [List.take_of_length_le (by omega), z, Nat.mul_zero, Nat.add_zero] at e
  have := val_lt (lo.take m)
  rw [List.length_take, Nat.min_eq_left (by omega)] at this
  omega
/-- The upper limbs of what is divided are below the divisor. -/
theorem start_lt {S : List Nat} {a n d m p v : Nat} (hS : val S = a * p) (ha : a < B ^ n) (hd : d + m = n + 1) (hl : S.length = n + 1) (hm : 0 < m) (hp : 0 < p) (hv : B ^ (m - 1) * p ≤ v) : val (S.drop d) < v := by
  have e := val_split S d (by omega)
  apply Nat.lt_of_lt_of_le _ hv
  apply Decidable.byContradiction
  intro k
  have k1 : B ^ d * (B ^ (m - 1) * p) ≤ B ^ d * val (S.drop d) := Nat.mul_le_mul_left _ (by omega)
  rw [← Nat.mul_assoc, ← Nat.pow_add, show d + (m - 1) = n by omega] at k1
  have k2 : a * p < B ^ n * p := Nat.mul_lt_mul_of_pos_right ha hp
  omega
end Go.Proofs.YtdnikdocfbbkkaaDoor
namespace Go.Proofs.YtdnikdocfbbkkaaDoor
open Go.RowKit
set_option linter.unusedVariables false
set_option linter.unusedSimpArgs false

/-- Two naturals. -/
def RetD (q r : Nat) (w : World) (e : Ending) (w' : World) : Prop := ∃ A n c A' n' c', e = .returned (.tuple #[.slice A n c, .slice A' n' c']) ∧ Lim w' A n c (limbs q) ∧ Lim w' A' n' c' (limbs r) ∧ Below w.heap.size w w'
/-- Both shifted numbers, in blocks of their own. -/
structure Two (w : World) (n m a b : Nat) (gR gV : Nat) (S vs : List Nat) (wx : World) : Prop where
  sl : S.length = n + 1
  vl : vs.length = m + 1
  sv : val S = a
  vv : val vs = b
  r1 : Row wx gR S
  r2 : Row wx gV vs
  ne : gR ≠ gV
  g1 : w.heap.size ≤ gR
  g2 : w.heap.size ≤ gV
  bl : Below w.heap.size w wx
theorem Two.ab {w W wa wb : World} {n m a b : Nat} {sa sb : List Nat} (h0 : Below w.heap.size w W) (la : sa.length = n + 1) (va : val sa = a) (ra : Row wa W.heap.size sa) (ba : Below W.heap.size W wa)
    (lb : sb.length = m + 1) (vb : val sb = b) (rb : Row wb wa.heap.size sb) (bb : Below wa.heap.size wa wb) : Two w n m a b W.heap.size wa.heap.size sa sb wb :=
  ⟨la, lb, va, vb, ra.next bb, rb, Nat.ne_of_lt ra.lt, h0.size, Nat.le_trans h0.size ba.size, below_step (below_step h0 ba) bb⟩
theorem Two.ba {w W wa wb : World} {n m a b : Nat} {sa sb : List Nat} (h0 : Below w.heap.size w W) (la : sa.length = n + 1) (va : val sa = a) (ra : Row wa wb.heap.size sa) (ba : Below wb.heap.size wb wa)
    (lb : sb.length = m + 1) (vb : val sb = b) (rb : Row wb W.heap.size sb) (bb : Below W.heap.size W wb) : Two w n m a b wb.heap.size W.heap.size sa sb wa :=
  ⟨la, lb, va, vb, ra, rb.next ba, Nat.ne_of_gt rb.lt, Nat.le_trans h0.size bb.size, h0.size, below_step (below_step h0 bb) ba⟩
theorem Two.drew {w : World} {n m a b gR gV : Nat} {S vs : List Nat} {wx : World} (h : Two w n m a b gR gV S vs wx) : Two w n m a b gR gV S vs wx.drew :=
  ⟨h.sl, h.vl, h.sv, h.vv, h.r1.drew, h.r2.drew, h.ne, h.g1, h.g2, h.bl.drew⟩
/-- What is in the loop of divLong. -/
structure Dlg (w : World) (n m d gR gV gQ : Nat) (S vs : List Nat) (i : Nat) (wr : World) : Prop where
  qs : ∃ ws qs, ws.length = m ∧ val ws < val (vs.take m) ∧ qs.length + i = d ∧ val (S.drop i) = val qs * val (vs.take m) + val ws ∧ Row wr gR (S.take i ++ ws ++ List.replicate (n + 1 - i - m) 0) ∧ Row wr gQ (List.replicate i 0 ++ qs)
  rv : Row wr gV vs
  bl : Below w.heap.size w wr

theorem win_parts (S ws : List Nat) (i m r : Nat) (hi : i < S.length) (hw : ws.length = m) :
    let zs := S.take (i + 1) ++ ws ++ List.replicate r 0
    zs.take i = S.take i ∧ (zs.drop (i + 1)).take m = ws ∧ (zs.drop i).take (m + 1) = S[i] :: ws ∧ zs.drop (i + (m + 1)) = List.replicate r 0 := by
  intro zs
  have e0 : zs = S.take i ++ (S[i] :: (ws ++ List.replicate r 0)) := by
    show S.take (i + 1) ++ ws ++ List.replicate r 0 = _
    rw [take_snoc S i hi, List.append_assoc, List.append_assoc]; rfl
  have l0 : (S.take i).length = i := by simp; omega
  have d0 : zs.drop i = S[i] :: (ws ++ List.replicate r 0) := by
    rw [e0, List.drop_append, List.drop_of_length_le (by omega), List.nil_append, l0, Nat.sub_self, List.drop_zero]
  have d1 : zs.drop (i + 1) = ws ++ List.replicate r 0 := by
    rw [← List.drop_drop, d0]; rfl
  refine ⟨?_, ?_, ?_, ?_⟩
  · rw [e0, List.take_append_of_le_length (by omega), List.take_of_length_le (by omega)]
  · rw [d1, List.take_append_of_le_length (by omega), List.take_of_length_le (by omega)]
  · rw [d0, List.take_succ_cons, List.take_append_of_le_length (by omega), List.take_of_length_le (by omega)]
  · rw [show i + (m + 1) = i + 1 + m by omega, ← List.drop_drop, d1, List.drop_append, List.drop_of_length_le (by omega), List.nil_append, hw, Nat.sub_self, List.drop_zero]
theorem Dlg.step {w : World} {n m d gR gV gQ : Nat} {S vs : List Nat} {i : Nat} {wr : World} (h : Dlg w n m d gR gV gQ S vs (i + 1) wr) (hd : d + m = n + 1) (hi : i < d) (sl : S.length = n + 1) (lS : Lo S) (hm : 0 < m)
    (vlt : val (vs.take m) < B ^ m) (vpos : 0 < val (vs.take m)) (n1 : gR ≠ gV) (n2 : gQ ≠ gR) (n3 : gQ ≠ gV) (w1 : w.heap.size ≤ gR) (w2 : w.heap.size ≤ gQ) :
    ∃ zs, zs.length = n + 1 ∧ Row wr gR zs ∧ val ((zs.drop (i + 1)).take m) < val (vs.take m) ∧
      ∀ e w2, RetO wr gR i zs m (val ((zs.drop i).take (m + 1))) (val (vs.take m)) e w2 → ∃ q, q < 4294967296 ∧ e = .returned (lv q) ∧ w2.cell? ⟨gQ, i, none⟩ = some (lv 0) ∧ w2.frozen? ⟨gQ, i, none⟩ = false ∧
        Dlg w n m d gR gV gQ S vs i (w2.setCell ⟨gQ, i, none⟩ (lv q)) := by
  obtain ⟨ws, qs, wl, wlt, ql, hv, rR, rQ⟩ := h.qs
  obtain ⟨p1, p2, p3, p4⟩ := win_parts S ws i m (n + 1 - (i + 1) - m) (by omega) wl
  have hS := lS.at_ i (by omega)
  refine ⟨_, by simp; omega, rR, by rw [p2]; exact wlt, ?_⟩
  intro e w3 he
  obtain ⟨ss, rfl, ssl, ssv, rR2, tt⟩ := he
  rw [p1, p4] at rR2
  rw [p3] at ssv ⊢
  have U1 : val (S[i] :: ws) < 4294967296 * val (vs.take m) := by
    rw [val_cons, B_eq]
    have : 4294967296 * (val ws + 1) ≤ 4294967296 * val (vs.take m) := Nat.mul_le_mul_left _ wlt
    omega
  have ql2 : val (S[i] :: ws) / val (vs.take m) < 4294967296 := (Nat.div_lt_iff_lt_mul vpos).2 U1
  have rl : val ss < val (vs.take m) := by rw [ssv]; exact Nat.mod_lt _ vpos
  obtain ⟨ws2, es, wl2, wv2⟩ := last_zero ssl (Nat.lt_trans rl vlt)
  have rQ2 := tt.row rQ n2
  have eq0 : List.replicate (i + 1) 0 ++ qs = List.replicate i 0 ++ (0 :: qs) := by
    rw [List.replicate_succ', List.append_assoc]; rfl
  rw [eq0] at rQ2
  refine ⟨_, ql2, rfl, rQ2.cell' ?_, rQ2.melt _, ⟨ws2, (val (S[i] :: ws) / val (vs.take m)) :: qs, wl2, by rw [wv2]; exact rl, by simp; omega, ?_, ?_, ?_⟩, (tt.row h.rv n1.symm).far (p := ⟨gQ, i, none⟩) n3.symm _, (h.bl.trans (tt.below w1)).setCell w2 _⟩
  · rw [List.getElem?_append_right (by simp)]; simp
  · rw [val_drop S i (by omega), val_cons, wv2, ssv]
    exact dlg_step hv (by rw [val_cons])
  · have er : S.take i ++ ws2 ++ List.replicate (n + 1 - i - m) 0 = S.take i ++ ss ++ List.replicate (n + 1 - (i + 1) - m) 0 := by
      rw [es, show n + 1 - i - m = (n + 1 - (i + 1) - m) + 1 by omega, List.replicate_succ]
      simp
    rw [er]
    exact rR2.far (p := ⟨gQ, i, none⟩) n2.symm _
  · have := rQ2.set_ i (val (S[i] :: ws) / val (vs.take m)) ql2
    rwa [List.set_append_right _ _ (by simp), List.length_replicate, Nat.sub_self, List.set_cons_zero] at this

set_option maxHeartbeats 4000000 in
set_option maxRecDepth 100000 in
theorem divLong_any {A A' : Option Addr} {n c m c' a b : Nat} {w : World} (ha : Lim w A n c (limbs a)) (hb : Lim w A' m c' (limbs b)) (la : ln a ≤ 64) (hm : 2 ≤ m) (hmn : m ≤ n) :
    Calls Tryd.prog 129 #[.slice A n c, .slice A' m c'] w fun e w' => RetD (a / b) (a % b) w e w' := by
  have hla := ha.len; have hlb := hb.len
  rw [limbs_length] at hla hlb
  obtain ⟨t, rfl⟩ : ∃ t, m = t + 1 := ⟨m - 1, by omega⟩
  have b0 : b ≠ 0 := by rintro rfl; rw [ln_zero] at hlb; omega
  have ht : t + 1 = (limbs b).length := by rw [limbs_length]; omega
  obtain ⟨ad, rfl⟩ := hb.some_ (by omega)
  have c1 := hb.cell t (by omega)
  have hx := (lo_limbs b).at_ t (by omega)
  have hx0 := last_ne_zero ht
  have hbl := bl_le (n := (limbs b)[t]'(by omega)) (k := 32) (by omega)
  have hbp := bl_pos hx0
  obtain ⟨s, hs⟩ : ∃ s, bl ((limbs b)[t]'(by omega)) + s = 32 := ⟨32 - bl ((limbs b)[t]'(by omega)), by omega⟩
  have hs31 : s < 32 := by omega
  have FIT := shift_fits ht hs
  have GE := shift_ge (k := s) b0 (show t + 1 = ln b by omega)
  have GEl : Hid (B ^ t * 2 ^ s ≤ b * 2 ^ s) := by
    have := le_of_ln b0
    rw [hlb, Nat.add_sub_cancel] at this
    exact Nat.mul_le_mul_right _ this
  have KL := Lib.hid (Tryd.bits_LeadingZeros32 ((limbs b)[t]'(by omega) : Int))
  have EB : Hid (32 - (Lib.bitLen ((limbs b)[t]'(by omega) : Int).toNat : Int) = (s : Int)) := by unfold Hid; rw [Int.toNat_natCast, bitLen_bl _ (by omega)]; omega
  generalize (limbs b)[t]'(by omega) = x at *
  have KA : Hid (∀ W : World, Below w.heap.size w W → Calls Tryd.prog 137 #[.slice A n c, .int .i64 s] W fun e w' => RetS n (a * 2 ^ s) W e w') := by
    intro W hW
    have := shifted_any (s := s) (ha.next hW) (by omega) hs31
    rwa [val_limbs] at this
  have KB : Hid (∀ W : World, Below w.heap.size w W → Calls Tryd.prog 137 #[.slice (some ad) (t + 1) c', .int .i64 s] W fun e w' => RetS (t + 1) (b * 2 ^ s) W e w') := by
    intro W hW
    have := shifted_any (s := s) (hb.next hW) (by omega) hs31
    rwa [val_limbs] at this
  have lta : a < B ^ n := by rw [← hla]; exact lt_ln a
  have LTA := Lib.hid lta
  have FITh := Lib.hid FIT; have GEh := Lib.hid GE
  have cb := hb.cap
  have hn64 : n ≤ 64 := by omega
  have B0 := Lib.hid b0
  clear ha hb hla hlb FIT GE hbl hbp hs lta ht la b0
  go_enter Tryd.func129, Tryd.ntmps129
  go_wp2_with fail
  refine (KL.out _ (by omega) (by omega)).mono ?_
  rintro e w' ⟨rfl, rfl⟩
  rw [EB.out]
  go_upto_region 2 with fail
  go_cut [7, 8] (fun s7 s8 wx => ∃ gR gV S vs, s7 = .slice (some ⟨gR, 0, none⟩) (n + 1) (n + 1) ∧ s8 = .slice (some ⟨gV, 0, none⟩) (t + 1) (t + 1 + 1) ∧ Two w' n (t + 1) (a * 2 ^ s) (b * 2 ^ s) gR gV S vs wx)
  case first =>
    go_region_with (go_at_call 137; first
      | ((with_reducible refine (KA.out _ ?_).mono ?_); rotate_left; rintro e wa ⟨sa, rfl, la, va, ra, ba⟩; rotate_left; first | exact Below.refl _ _ | exact (Below.refl _ _).drew | exact ⟨bb.os, bb.tape, bb.output, bb.size, bb.block⟩)
      | ((with_reducible refine (KB.out _ ?_).mono ?_); rotate_left; rintro e wb ⟨sb, rfl, lb, vb, rb, bb⟩; rotate_left; first | exact Below.refl _ _ | exact (Below.refl _ _).drew | exact ⟨ba.os, ba.tape, ba.output, ba.size, ba.block⟩))
    all_goals go_wp2_with fail
    all_goals go_meet
    all_goals go_light
    all_goals exact ⟨_, _, sa, sb, rfl, rfl, Two.ab (W := World.drew w') ((Below.refl _ _).drew) la va ra ba lb vb rb bb⟩
  case rest =>
    obtain ⟨gR, gV, S, vs, rfl, rfl, T⟩ := hcut
    obtain ⟨d, hd⟩ : ∃ d, d + (t + 1) = n + 1 := ⟨n - t, by omega⟩
    have ed : (n : Int) - ((t : Int) + 1) + 1 = (d : Int) := by omega
    have ed2 : (n : Int) - (t : Int) - 1 + 1 = (d : Int) := by omega
    have hmk := make_u32 d (by omega)
    have lv0 := T.r2.lo
    have VL := last_zero T.vl (by rw [T.vv]; exact FITh.out)
    have ev : val (vs.take (t + 1)) = b * 2 ^ s := by
      obtain ⟨ws, e1, e2, e3⟩ := VL
      rw [e1, List.take_append_of_le_length (by omega), List.take_of_length_le (by omega), e3, T.vv]
    have D0 : Dlg w' n (t + 1) d gR gV wc.heap.size S vs d (wc.alloc (zrow d)) := by
      refine ⟨⟨S.drop d, [], by simp [T.sl]; omega, ?_, by simp, by rw [val_nil, Nat.zero_mul, Nat.zero_add], ?_, ?_⟩, T.r2.alloc _, T.bl.alloc T.bl.size _⟩
      · rw [ev]
        exact start_lt (m := t + 1) (p := 2 ^ s) T.sv LTA.out hd T.sl (by omega) (Nat.two_pow_pos s) (by rw [Nat.add_sub_cancel]; exact GEl.out)
      · have e0 : n + 1 - d - (t + 1) = 0 := by omega
        rw [List.take_append_drop, e0, List.replicate_zero, List.append_nil]
        exact T.r1.alloc _
      · rw [List.append_nil]
        exact Row.zeros wc d
    have EV := Lib.hid ev
    have g1 := T.g1; have g2 := T.g2; have gne := T.ne
    have gq1 := T.r1.lt; have gq2 := T.r2.lt
    have SL := Lib.hid T.sl; have VLn := Lib.hid T.vl; have SV := Lib.hid T.sv
    have LS := Lib.hid T.r1.lo; have LV := Lib.hid lv0
    have gq0 : w'.heap.size ≤ wc.heap.size := T.bl.size
    clear T VL ev lv0
    go_wp2_with fail
    generalize wc.alloc (zrow d) = wa at *
    generalize wc.heap.size = gQ at *
    go_loopg [10] d (fun q s10 wr => q ≤ d ∧ s10 = .int .i64 ((q : Int) - 1) ∧ Dlg w' n (t + 1) d gR gV gQ S vs q wr)
    case atStart => exact ⟨Nat.le_refl _, rfl, D0⟩
    case round =>
      clear D0
      obtain ⟨hq, rfl, D⟩ := hrel
      have vpos : 0 < val (vs.take (t + 1)) := by rw [EV.out]; exact Nat.mul_pos (Nat.pos_of_ne_zero B0.out) (Nat.two_pow_pos s)
      by_cases hz : gk = 0
      · subst hz
        have ek : ((0 : Nat) : Int) - 1 = -1 := by omega
        rw [ek]
        clear ek
        obtain ⟨ws, qs, wl, wlt, ql, hv, rR, rQ⟩ := D.qs
        rw [List.drop_zero, SV.out, EV.out] at hv
        rw [EV.out] at wlt
        obtain ⟨eq1, eq2⟩ := div_scaled (Nat.two_pow_pos s) (Nat.pos_of_ne_zero B0.out) hv wlt
        have TQ : Hid (∀ W : World, Below wr.heap.size wr W → Calls Tryd.prog 76 #[.slice (some ⟨gQ, 0, none⟩) d d] W fun e w' => ∃ A' n' c', e = .returned (.slice A' n' c') ∧ Lim W A' n' c' (limbs (a / b)) ∧ W = w') := by
          intro W hW
          have L := (rQ.next hW).lim (o := 0) (n := d) (c := d) (by simp; omega) (Nat.le_refl _) (by omega)
          rw [List.drop_zero, List.replicate_zero, List.nil_append, List.take_of_length_le (by omega)] at L
          have := trim_any L
          rwa [eq1] at this
        have TS : Hid (∀ W : World, Below wr.heap.size wr W → Calls Tryd.prog 139 #[.slice (some ⟨gR, 0, none⟩) (t + 1) (n + 1), .int .i64 s] W fun e w' => RetN (a % b) W e w') := by
          intro W hW
          have L := (rR.next hW).lim (o := 0) (n := t + 1) (c := n + 1) (by simp; omega) (by omega) (by omega)
          rw [List.drop_zero, List.take_zero, List.nil_append, List.take_append_of_le_length (by omega), List.take_of_length_le (by omega)] at L
          have := shiftedBack_any L (by omega) hs31
          rwa [eq2] at this
        have BL := D.bl
        have i2 : (t : Int) + 1 ≤ (n : Int) + 1 := by omega
        have i0 : (0 : Int) ≤ (t : Int) + 1 := by omega
        clear D wl wlt ql hv rR rQ eq1 eq2
        go_wp2_with fail
        go_region_with (first
          | (go_at_call 76; ((with_reducible refine (TQ.out _ ?_).mono ?_); rotate_left; rintro e wa ⟨Aq, nq, cq, rfl, Lq, rfl⟩; rotate_left; first | exact Below.refl _ _ | exact (Below.refl _ _).drew | exact ⟨bb.os, bb.tape, bb.output, bb.size, bb.block⟩))
          | (go_at_call 139; ((with_reducible refine (TS.out _ ?_).mono ?_); rotate_left; rintro e wb ⟨Ar, nr, cr, rfl, Lr, bb⟩; rotate_left; first | exact Below.refl _ _ | exact (Below.refl _ _).drew)))
        all_goals go_wp2_with fail
        all_goals go_ret2
        all_goals exact ⟨_, _, _, _, _, _, rfl, Lq.next bb, Lr, below_step BL.drew bb⟩
      · obtain ⟨k, rfl⟩ : ∃ k, gk = k + 1 := ⟨gk - 1, by omega⟩
        have ek : ((k + 1 : Nat) : Int) - 1 = (k : Int) := by omega
        rw [ek]
        obtain ⟨zs, zl, rz, zlt, NX⟩ := D.step hd (by omega) SL.out LS.out (by omega) (by rw [EV.out]; exact FITh.out) vpos gne (by omega) (by omega) g1 gq0
        have NX := Lib.hid NX
        have lv := D.rv.lim (o := 0) (n := t + 1) (c := t + 1 + 1) (by rw [VLn.out]; omega) (by omega) (by omega)
        rw [List.drop_zero] at lv
        have tn : ∀ h : t + 1 - 1 < (vs.take (t + 1)).length, (vs.take (t + 1))[t + 1 - 1] ≠ 0 := by
          intro h
          have := top_ne (vs := vs.take (t + 1)) (m := t) (by simp [VLn.out]) (LV.out.take _) (by rw [EV.out]; exact GEh.out)
          simpa using this
        have KT := Lib.hid (fun c2 (hc2 : t + 1 + 1 ≤ c2) => takeOut_any (o := k) (c := c2) (cb := t + 1 + 1) rz lv (by rw [zl]; omega) (by omega) (by omega) (fun ad' e _ => by injection e with e; subst e; exact gne.symm) vpos tn zlt hc2)
        have i1 : (k : Int) < d := by omega
        have i0 : (0 : Int) ≤ k := by omega
        have i2 : (k : Int) + ((t : Int) + 1) + 1 ≤ (n : Int) + 1 := by omega
        have i3 : (k : Int) ≤ (k : Int) + ((t : Int) + 1) + 1 := by omega
        have i4 : ¬ n + 1 = k := by omega
        clear D ek zlt lv tn rz
        go_wp2_with fail
        have es : k + (t + 1) + 1 - k = t + 1 + 1 := by omega
        rw [es]
        refine (KT.out _ (by omega)).mono ?_
        intro e w2 he
        obtain ⟨q, qb, rfl, cq, fq, D2⟩ := NX.out e w2 he
        have D2 := Lib.hid D2
        clear he
        go_wp2_with fail
        go_roundg k
        case measure => omega
        case rel =>
          go_light
          exact ⟨by omega, rfl, D2.out⟩
end Go.Proofs.YtdnikdocfbbkkaaDoor
namespace Go.Proofs.YtdnikdocfbbkkaaDoor
open Go.RowKit
set_option linter.unusedVariables false
set_option linter.unusedSimpArgs false

/-- A row that the call owns is a slice of limbs. -/
theorem own_lim {w : World} {base n : Nat} {v : Value} {xs : List Nat} (h : w.ownsRow base 37 1 v n (xs.map lv)) (lo : Lo xs) : ∃ A c, v = .slice A n c ∧ Lim w A n c xs := by
  have hl : xs.length = n := by have := h.1; simpa using this
  rcases h.2 with ⟨rfl, rfl⟩ | ⟨g, cap, cur, rfl, _, hb, h1, h2, h3, h4⟩
  · have e := List.eq_nil_of_length_eq_zero hl
    subst e
    exact ⟨none, 0, rfl, Lim.none_ _ _ _ (by omega)⟩
  · refine ⟨_, cap, rfl, hl, h1, h2, fun j hj => ⟨_, rfl, ?_⟩, lo⟩
    rw [add_lit, Nat.zero_add]
    have e : cur[j]? = some (lv xs[j]) := by
      have : (cur.toList.take (n * 1))[j]? = some (lv xs[j]) := by rw [h4]; simp [hj]
      rw [List.getElem?_take, if_pos (by omega)] at this
      simpa using this
    simp [World.cell?, hb, e]

set_option maxHeartbeats 2000000 in
set_option maxRecDepth 100000 in
theorem clone_any {A : Option Addr} {n c : Nat} {xs : List Nat} {w : World} (h : Lim w A n c xs) (hn : n ≤ 1000) : Calls Tryd.prog 109 #[.slice A n c] w fun e w' => ∃ A' n' c', e = .returned (.slice A' n' c') ∧ Lim w' A' n' c' xs ∧ Below w.heap.size w w' := by
  have q22 : ∀ (w : World) (a : Option Addr) (n c n' c' : Nat), (binOp .eql 23 (.slice a n c) (.slice none n' c')).run Tryd.prog w = .ok (.bool a.isNone) w := fun w a n c n' c' => Lib.run_eql_slice_nil w _ _ a n c n' c' Tryd.underlying23
  cases A with
  | none =>
    have H := Lib.hid h
    have h0 : n = 0 := by
      rcases Nat.eq_zero_or_pos n with k | k
      · exact k
      · obtain ⟨ad, e⟩ := h.some_ k; cases e
    subst h0
    have e := List.eq_nil_of_length_eq_zero h.len
    subst e
    clear h
    go_enter Tryd.func109, Tryd.ntmps109
    go_wp2
    go_ret
    exact ⟨none, 0, 0, rfl, Lim.none_ _ _ _ (by omega), Below.refl _ _⟩
  | some ad =>
    obtain ⟨i0, hi, hz0, hz1, hz2⟩ := info_parts info_u32
    have H := Lib.hid h
    have hl := h.len
    have lo := Lib.hid h.lo
    clear h
    go_enter Tryd.func109, Tryd.ntmps109
    go_wp2_with (at_builtin; refine wpList_append_own _ rfl _ _ 23 rfl w.heap.size 37 i0 (.int .u32 0) 1 4 Tryd.underlying23 hi hz0 hz1 hz2 rfl (by decide) _ _ _ rfl (World.ownsRow_made w #[] 0 (Nat.le_refl _) (Nat.zero_le _) rfl) ad n c (xs.map lv) rfl ?qc1 ?qc2 ?qc3 ?qc4 ?qc5 ?qc6 ?_)
    case qc1 => simp; omega
    case qc2 =>
      intro j u hj
      have hj' : j < xs.length := by have := (List.getElem?_eq_some_iff.1 hj).1; simpa using this
      have := (H.out.alloc (.cells #[] 37)).cell j hj'
      rw [List.getElem?_map, List.getElem?_eq_getElem hj'] at hj
      simp only [Option.map_some, Option.some.injEq] at hj
      rw [← hj]
      exact this
    case qc3 => intro u hu; obtain ⟨x, _, rfl⟩ := List.mem_map.1 hu; rfl
    case qc4 => unfold maxLen; omega
    case qc5 => omega
    case qc6 => simp
    intro v' w1 hown hgrow hnil
    have BL : Below w.heap.size w w1 := ((Below.refl _ w).alloc (Nat.le_refl _) _).grown hgrow (by simp) (by intro k hk; simp [Value.ownBlock] at hk; omega)
    have hown2 : w1.ownsRow w.heap.size 37 1 v' n (xs.map lv) := by simpa using hown
    obtain ⟨A2, c2, rfl, L2⟩ := own_lim hown2 lo.out
    clear hown hgrow hnil hown2
    go_wp2
    go_ret
    exact ⟨_, _, _, rfl, L2, BL⟩

set_option maxHeartbeats 1000000 in
set_option maxRecDepth 100000 in
theorem divide_any {A A' : Option Addr} {n c n' c' a b : Nat} {w : World} (ha : Lim w A n c (limbs a)) (hb : Lim w A' n' c' (limbs b)) (la : ln a ≤ 64) (b0 : b ≠ 0) :
    Calls Tryd.prog 108 #[.slice A n c, .slice A' n' c'] w fun e w' => RetD (a / b) (a % b) w e w' := by
  have hl := ha.len; have hl' := hb.len
  rw [limbs_length] at hl hl'
  by_cases lt : n < n'
  · have il : (n : Int) < n' := by omega
    have ab : a < b := lt_of_ln_lt (by omega)
    rw [Nat.div_eq_of_lt ab, Nat.mod_eq_of_lt ab]
    have KC := Lib.hid (clone_any ha (by omega))
    clear ha hb la lt hl hl' ab
    go_enter Tryd.func108, Tryd.ntmps108
    go_wp2_with fail
    refine KC.out.mono ?_
    rintro e w1 ⟨A1, n1, c1, rfl, L1, B1⟩
    have KT := Lib.hid (trim_any L1)
    rw [val_limbs] at KT
    clear L1
    go_wp2_with fail
    refine KT.out.mono ?_
    rintro e w2 ⟨A2, n2, c2, rfl, L2, rfl⟩
    go_wp2_with fail
    go_ret2
    exact ⟨_, _, _, _, _, _, rfl, lim_zero _ _ _ (by omega), L2, B1⟩
  · have il : ¬ (n : Int) < n' := by omega
    by_cases h1 : n' = 1
    · subst h1
      have e1 : ((1 : Int) == 1) = true := by decide
      obtain ⟨ad, rfl⟩ := hb.some_ (by omega)
      have hlt : 0 < (limbs b).length := by rw [limbs_length]; omega
      have hc := hb.cell 0 hlt
      have hx := (lo_limbs b).at_ 0 hlt
      have eb : (limbs b)[0] = b := by
        have e := val_take_succ (limbs b) 0 hlt
        rw [List.take_of_length_le (by rw [limbs_length]; omega), val_limbs, List.take_zero, val_nil, Nat.pow_zero, Nat.one_mul, Nat.zero_add] at e
        exact e.symm
      rw [eb] at hc hx
      have ha0 : ad.add 0 = ad := by unfold Addr.add; rfl
      rw [ha0] at hc
      have KD := Lib.hid (divShort_any ha (b := b) (by omega) (Nat.pos_of_ne_zero b0) hx)
      rw [val_limbs] at KD
      have hr : a % b < b := Nat.mod_lt _ (Nat.pos_of_ne_zero b0)
      generalize a % b = r at *
      clear ha hb la lt hl hl' eb ha0
      go_enter Tryd.func108, Tryd.ntmps108
      go_wp2_with fail
      refine KD.out.mono ?_
      rintro e w1 ⟨A1, n1, c1, rfl, L1, B1⟩
      have L1 := Lib.hid L1
      go_wp2_with fail
      refine (of_any r (by omega) _).mono ?_
      rintro e w2 ⟨A2, n2, c2, rfl, L2, B2⟩
      go_wp2_with fail
      go_ret2
      exact ⟨_, _, _, _, _, _, rfl, L1.out.next B2, L2, below_step B1 B2⟩
    · have e1 : ((n' : Int) == 1) = false := by simp; omega
      have n0 : 0 < n' := by rw [← hl']; exact ln_pos b0
      have KD := Lib.hid (divLong_any ha hb la (by omega) (by omega))
      clear ha hb la lt hl hl'
      go_enter Tryd.func108, Tryd.ntmps108
      go_wp2_with fail
      refine KD.out.mono ?_
      rintro e w1 ⟨A1, n1, c1, A2, n2, c2, rfl, L1, L2, B1⟩
      have L1 := Lib.hid L1
      have L2 := Lib.hid L2
      go_wp2_with fail
      go_ret2
      exact ⟨_, _, _, _, _, _, rfl, L1.out, L2.out, B1⟩

/-- Two naturals, and an error. -/
def RetF (q r : Nat) (k : Int) (w : World) (e : Ending) (w' : World) : Prop := ∃ A n c A' n' c', e = .returned (.tuple #[.slice A n c, .slice A' n' c', .int .i64 k]) ∧ Lim w' A n c (limbs q) ∧ Lim w' A' n' c' (limbs r) ∧ Below w.heap.size w w'
set_option maxRecDepth 100000 in
theorem div_any {A A' : Option Addr} {n c n' c' a b : Nat} {w : World} (ha : Lim w A n c (limbs a)) (hb : Lim w A' n' c' (limbs b)) (la : ln a ≤ 64) (lb : ln b ≤ 64) (b0 : b ≠ 0) :
    Calls Tryd.prog 63 #[.slice A n c, .slice A' n' c'] w fun e w' => RetF (a / b) (a % b) 0 w e w' := by
  have RA := Lib.hid (right_yes ha la); have RB := Lib.hid (right_yes hb lb)
  have K := Lib.hid (divide_any ha hb la b0)
  have h0 : ((n' : Int) == 0) = false := by
    have := hb.len
    rw [limbs_length] at this
    have := ln_pos b0
    simp; omega
  clear ha hb la lb
  go_enter Tryd.func63, Tryd.ntmps63
  go_wp2_with fail
  refine RA.out.mono ?_
  rintro e w' ⟨rfl, rfl⟩
  go_wp2_with fail
  refine RB.out.mono ?_
  rintro e w' ⟨rfl, rfl⟩
  go_wp2_with fail
  refine K.out.mono ?_
  rintro e w1 ⟨A1, n1, c1, A2, n2, c2, rfl, L1, L2, B1⟩
  have L1 := Lib.hid L1
  have L2 := Lib.hid L2
  go_wp2_with fail
  go_ret3
  exact ⟨_, _, _, _, _, _, rfl, L1.out, L2.out, B1⟩
set_option maxRecDepth 100000 in
theorem div_zero {A A' : Option Addr} {n c c' a : Nat} {w : World} (ha : Lim w A n c (limbs a)) (hb : Lim w A' 0 c' []) (la : ln a ≤ 64) :
    Calls Tryd.prog 63 #[.slice A n c, .slice A' 0 c'] w fun e w' => e = .returned (.tuple #[.slice none 0 0, .slice none 0 0, .int .i64 7]) ∧ w = w' := by
  have RA := Lib.hid (right_yes ha la); have RB := Lib.hid (right_yes (a := 0) (by rw [limbs_zero]; exact hb) (by rw [ln_zero]; omega))
  clear ha hb la
  go_enter Tryd.func63, Tryd.ntmps63
  go_wp2_with fail
  refine RA.out.mono ?_
  rintro e w' ⟨rfl, rfl⟩
  go_wp2_with fail
  refine RB.out.mono ?_
  rintro e w' ⟨rfl, rfl⟩
  go_wp2_with fail
  go_ret3
  exact ⟨rfl, rfl⟩
set_option maxRecDepth 100000 in
theorem div_none {A A' : Option Addr} {n c n' c' : Nat} {xs ys : List Nat} {w : World} (ha : Lim w A n c xs) (hb : Lim w A' n' c' ys) (h : NoTwo xs ys) :
    Calls Tryd.prog 63 #[.slice A n c, .slice A' n' c'] w fun e w' => e = .returned (.tuple #[.slice none 0 0, .slice none 0 0, .int .i64 1]) ∧ w = w' := by
  rcases rights_no ha hb h with ⟨_, RA, RB⟩ | RA
  · have RA := Lib.hid RA; have RB := Lib.hid RB
    clear ha hb h
    go_enter Tryd.func63, Tryd.ntmps63
    go_wp2_with fail
    refine (RA.out _ rfl).mono ?_
    rintro e w' ⟨rfl, rfl⟩
    go_wp2_with fail
    refine (RB.out _ rfl).mono ?_
    rintro e w' ⟨rfl, rfl⟩
    go_wp2_with fail
    go_ret3
    exact ⟨rfl, rfl⟩
  · have RA := Lib.hid RA
    clear ha hb h
    go_enter Tryd.func63, Tryd.ntmps63
    go_wp2_with fail
    refine (RA.out _ rfl).mono ?_
    rintro e w' ⟨rfl, rfl⟩
    go_wp2_with fail
    go_ret3
    exact ⟨rfl, rfl⟩
end Go.Proofs.YtdnikdocfbbkkaaDoor
