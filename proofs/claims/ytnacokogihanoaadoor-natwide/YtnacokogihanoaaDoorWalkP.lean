/- The walks of Reverse, Text. -/
import Derived.Test.YtnacokogihanoaaDoorWalkO
import Derived.Laws.IdiomStrings
namespace Go.Proofs.YtnacokogihanoaaDoor
open Go.RowKit
set_option linter.unusedVariables false
set_option linter.unusedSimpArgs false

/-- So far turned round. -/
def Half2 (bs cs : List UInt8) (n i : Nat) : Prop := cs.length = n ∧ ∀ t, t < n → cs[t]? = if t < i ∨ n - i ≤ t then bs[n - 1 - t]? else bs[t]?
theorem Half2.start (bs : List UInt8) : Half2 bs bs bs.length 0 := ⟨rfl, fun t ht => by rw [if_neg (by omega)]⟩
theorem Half2.step {bs cs : List UInt8} {n i : Nat} (h : Half2 bs cs n i) (hi : i + 1 < n - i) : ∃ x y, cs[i]? = some x ∧ cs[n - 1 - i]? = some y ∧ Half2 bs ((cs.set i y).set (n - 1 - i) x) n (i + 1) := by
  have hl := h.1
  refine ⟨cs[i]'(by omega), cs[n - 1 - i]'(by omega), List.getElem?_eq_getElem _, List.getElem?_eq_getElem _, by simp [hl], ?_⟩
  intro t ht
  have e1 := h.2 i (by omega)
  have e2 := h.2 (n - 1 - i) (by omega)
  rw [if_neg (by omega)] at e1 e2
  by_cases a : t = n - 1 - i
  · subst a
    rw [List.getElem?_set_self (by simp; omega), if_pos (by omega), ← List.getElem?_eq_getElem, e1]
    congr 1
    omega
  · rw [List.getElem?_set_ne (by omega)]
    by_cases b : t = i
    · subst b
      rw [List.getElem?_set_self (by omega), if_pos (by omega), ← List.getElem?_eq_getElem, e2]
    · rw [List.getElem?_set_ne (by omega), h.2 t ht]
      by_cases c : t < i ∨ n - i ≤ t
      · rw [if_pos c, if_pos (by omega)]
      · rw [if_neg c, if_neg (by omega)]
theorem Half2.done {bs cs : List UInt8} {n i : Nat} (h : Half2 bs cs n i) (hb : bs.length = n) (hi : ¬ i + 1 < n - i) (hi2 : 2 * i ≤ n) : cs = bs.reverse := by
  apply List.ext_getElem?
  intro t
  by_cases ht : t < n
  · rw [h.2 t ht, List.getElem?_reverse (by omega), hb]
    by_cases c : t < i ∨ n - i ≤ t
    · rw [if_pos c]
    · rw [if_neg c]
      congr 1
      omega
  · rw [List.getElem?_eq_none (by rw [h.1]; omega), List.getElem?_eq_none (by simp; omega)]

set_option maxHeartbeats 2000000 in
set_option maxRecDepth 100000 in
theorem reverse_any {g n c : Nat} {bs : List UInt8} {ys : List Value} {w : World} (h : Brow w g bs ys) (hl : bs.length = n) (hn : n ≤ 100000) :
    Calls Tryd.prog 64 #[.slice (some ⟨g, 0, none⟩) n c] w fun e w' => e = .returned (.tuple #[]) ∧ Brow w' g bs.reverse ys ∧ Turn w w' g := by
  have S0 : Hid (Half2 bs bs n 0) := by unfold Hid; rw [← hl]; exact Half2.start bs
  have H0 := h
  have HL := Lib.hid hl
  clear h hl
  go_enter Tryd.func64, Tryd.ntmps64
  go_wp2_with fail
  go_loopg [2, 3] n (fun q s2 s3 wr => ∃ (i : Nat) (cs : List UInt8), i + q = n ∧ 2 * i ≤ n ∧ s2 = .int .i64 (i : Int) ∧ s3 = .int .i64 ((n : Int) - 1 - (i : Int)) ∧ Hid (Half2 bs cs n i) ∧ Brow wr g cs ys ∧ Turn w wr g)
  case atStart => exact ⟨0, bs, by omega, by omega, rfl, congrArg (Value.int .i64) (by omega), S0, H0, Turn.refl _ _⟩
  case round =>
    clear S0 H0
    obtain ⟨i, cs, hq, h2, rfl, rfl, S, R, T⟩ := hrel
    have HQ := Lib.hid hq
    by_cases lt : i + 1 < n - i
    · have il : (i : Int) < (n : Int) - 1 - (i : Int) := by omega
      obtain ⟨j, hj⟩ : ∃ j, i + j + 1 = n := ⟨n - 1 - i, by omega⟩
      have ej : (n : Int) - 1 - (i : Int) = (j : Int) := by omega
      rw [ej] at il ⊢
      obtain ⟨x, y, hx, hy, ST⟩ := S.out.step lt
      rw [show n - 1 - i = j by omega] at hy ST
      have ST := Lib.hid ST
      have ci : w = w := rfl
      obtain ⟨li, ei⟩ := List.getElem?_eq_some_iff.1 hx
      obtain ⟨lj, e2⟩ := List.getElem?_eq_some_iff.1 hy
      have c1 := R.cell i li
      have c2 := R.cell j lj
      rw [ei] at c1
      rw [e2] at c2
      have f1 := R.melt i
      have f2 := R.melt j
      have R2 := Lib.hid ((R.set_ i li y).set_ j (by simpa using lj) x)
      have T2 := Lib.hid ((T.setCell i (bv y)).setCell j (bv x))
      have i0 : (0 : Int) ≤ i := by omega
      have i1 : (i : Int) < n := by omega
      have j0 : (0 : Int) ≤ j := by omega
      have j1 : (j : Int) < n := by omega
      have ne : ¬ i = j := by omega
      have EJ := Lib.hid hj
      clear hx hy ei e2 S R T ci hq ej
      go_wp2_with fail
      go_region
      all_goals go_wp2_with fail
      all_goals go_roundg (gk - 1)
      case measure => have := HQ.out; omega
      case rel =>
        go_light
        exact ⟨i + 1, _, by have := HQ.out; omega, by omega, by go_num, congrArg (Value.int .i64) (by have := EJ.out; omega), ST, R2.out.drew, T2.out.drew⟩
    · have il : ¬ (i : Int) < (n : Int) - 1 - (i : Int) := by omega
      have e := S.out.done HL.out lt h2
      have R2 := Lib.hid (e ▸ R)
      have T2 := Lib.hid T
      clear S R T e hq
      go_wp2_with fail
      go_returns
      exact ⟨rfl, R2.out, T2.out⟩
theorem Brow.split {w : World} {g : Nat} {bs : List UInt8} {ys : List Value} (h : Brow w g bs ys) (k : Nat) : Brow w g (bs.take k) ((bs.drop k).map bv ++ ys) := by
  refine ⟨?_⟩
  rw [h.blk, ← List.append_assoc, ← List.map_append, List.take_append_drop]

theorem own_next {w w' : World} {base : Nat} {e : TypeId} {v : Value} {n : Nat} {xs : List Value} (h : w.ownsRow base e 1 v n xs) (hb : Below w.heap.size w w') : w'.ownsRow base e 1 v n xs := by
  obtain ⟨h1, h2⟩ := h
  refine ⟨h1, ?_⟩
  rcases h2 with h2 | ⟨g, cap, cur, hv, hg, hh, r⟩
  · exact Or.inl h2
  · exact Or.inr ⟨g, cap, cur, hv, hg, (hb.block g (Array.getElem?_eq_some_iff.1 hh).1).trans hh, r⟩
theorem Lim.grown {w w' : World} {A : Option Addr} {n c : Nat} {xs : List Nat} {row : Option Nat} (h : Lim w A n c xs) (hg : w.grownBy w' row) (hne : ∀ ad, A = some ad → some ad.block ≠ row) : Lim w' A n c xs :=
  ⟨h.len, h.cap, h.top, fun j hj => by
    obtain ⟨ad, e, hc⟩ := h.at_ j hj
    refine ⟨ad, e, hg.cell hc ?_⟩
    rw [block_add]
    exact hne ad e, h.lo⟩
/-- What is in the loop of Text. -/
structure Txt (w : World) (a x : Nat) (s0 s3 : Value) (wr : World) : Prop where
  ex : ∃ A n c ds j, s0 = .slice A n c ∧ Lim wr A n c (limbs x) ∧ Dg ds ∧ ds.length + 9 * j = 630 ∧ x < 10 ^ (9 * j) ∧ dv ds + 10 ^ ds.length * x = a ∧ wr.ownsRow w.heap.size 5 1 s3 ds.length ((ds.map dig).map bv)
  bl : Below w.heap.size w wr
theorem txt_step {P D x a : Nat} (h : D + P * x = a) : D + P * (x % 1000000000) + P * 1000000000 * (x / 1000000000) = a := by
  have e : x = x % 1000000000 + 1000000000 * (x / 1000000000) := by omega
  have : P * x = P * (x % 1000000000) + P * 1000000000 * (x / 1000000000) := by
    conv => lhs; rw [e, Nat.mul_add, ← Nat.mul_assoc]
  omega
theorem lt_630 {a : Nat} (h : ln a ≤ 64) : a < 10 ^ (9 * 70) := by
  have h1 := Nat.lt_of_lt_of_le (lt_ln a) (Nat.pow_le_pow_right B_pos h)
  rw [B_eq] at h1
  exact Nat.lt_trans h1 (by decide +kernel)

set_option maxHeartbeats 2000000 in
set_option maxRecDepth 100000 in
theorem text_any {A : Option Addr} {n c a : Nat} {w : World} (ha : Lim w A n c (limbs a)) (la : ln a ≤ 64) : Calls Tryd.prog 21 #[.slice A n c] w fun e w' => e = .returned (.string ⟨(dtext a).toArray⟩) ∧ Below w.heap.size w w' := by
  have RA := Lib.hid (right_yes ha la)
  have hl := ha.len
  rw [limbs_length] at hl
  by_cases hz : n = 0
  · subst hz
    have e := ln_eq_zero hl
    subst e
    have E := Lib.hid dtext_zero
    clear ha hl la
    go_enter Tryd.func21, Tryd.ntmps21
    go_wp2_with fail
    refine RA.out.mono ?_
    rintro e w' ⟨rfl, rfl⟩
    go_wp2_with fail
    go_ret
    exact ⟨by rw [E.out]; rfl, Below.refl _ _⟩
  · have h0 : ((n : Int) == 0) = false := by simpa using hz
    have a0 : a ≠ 0 := by rintro rfl; rw [ln_zero] at hl; omega
    have S0 : Txt w a a (.slice A n c) (.slice none 0 0) w := ⟨⟨A, n, c, [], 70, rfl, ha, .nil, rfl, lt_630 la, by simp [dv], World.ownsRow_nil w _ _ _⟩, Below.refl _ _⟩
    have A0 := Lib.hid a0
    have LA : Hid (ln a ≤ 70) := Nat.le_trans la (by decide)
    clear ha hl la a0
    go_enter Tryd.func21, Tryd.ntmps21
    go_wp2_with fail
    refine RA.out.mono ?_
    rintro e w' ⟨rfl, rfl⟩
    go_wp2_with fail
    go_loopg [0, 3] a (fun x s0 s3 wr => Txt w a x s0 s3 wr)
    case atStart => exact S0
    case round =>
      clear S0 RA
      obtain ⟨A, n, c, ds, j, rfl, L, hd, hj, hx, hv, own⟩ := hrel.ex
      have BL := hrel.bl
      have hl := L.len
      rw [limbs_length] at hl
      clear hrel
      by_cases x0 : gk = 0
      · subst x0
        rw [ln_zero] at hl
        subst hl
        rw [Nat.mul_zero, Nat.add_zero] at hv
        have k0 : 0 < ds.length := by
          rcases Nat.eq_zero_or_pos ds.length with k | k
          · have := List.eq_nil_of_length_eq_zero k
            subst this
            exact absurd hv.symm A0.out
          · exact k
        obtain ⟨g, c2, ys, rfl, hg, hc2, hm, _, R⟩ := own_brow own k0
        unfold maxLen at hm
        have KT := Lib.hid (trimRight_any R hd rfl hc2 hm k0)
        have DT : Hid (dtext a = ((tens a).map dig).reverse) := dtext_pos A0.out
        have k630 : ds.length ≤ 630 := by omega
        have HV := Lib.hid hv
        have HR := Lib.hid R
        clear L own hd hj hx hv R
        go_wp2_with fail
        refine KT.out.mono ?_
        rintro e w2 ⟨k, hk, rfl, E, rfl⟩
        rw [HV.out] at E
        have R2 := HR.out.split k
        rw [← List.map_take, E] at R2
        have tl : ((tens a).map dig).length = k := by rw [← E]; simp; omega
        have KR := Lib.hid (reverse_any (n := k) (c := c2) R2 tl (by omega))
        have TL := Lib.hid tl
        clear R2 E tl
        go_wp2_with fail
        refine KR.out.mono ?_
        rintro e w3 ⟨rfl, R3, T3⟩
        rw [← DT.out] at R3
        have dl : (dtext a).length = k := by rw [DT.out, List.length_reverse]; exact TL.out
        have hconv : (convert 75 9 (.slice (some ⟨g, 0, none⟩) k c2)).run Tryd.prog w3 = .ok (.string ⟨(dtext a).toArray⟩) w3 := by
          rw [← dl]
          refine run_convert_bytes_back w3 75 9 5 ⟨g, 0, none⟩ _ (dtext a) Tryd.underlying75 Tryd.underlying5 Tryd.underlying9 ?_
          intro j hj
          rw [add_lit, Nat.zero_add]
          exact R3.cell j hj
        have BL3 := BL.trans (T3.below hg)
        clear R3 T3 dl
        go_wp2_with fail
        go_ret
        exact ⟨rfl, BL3⟩
      · have xp := ln_pos x0
        have i0 : (0 : Int) < n := by omega
        have j1 : 1 ≤ j := by
          rcases Nat.eq_zero_or_pos j with q | q
          · subst q
            simp at hx
            exact absurd hx x0
          · exact q
        have n64 : n ≤ 70 := by
          rw [← hl]
          refine Nat.le_trans (ln_mono (b := a) ?_) ?_
          · have : 1 * gk ≤ 10 ^ ds.length * gk := Nat.mul_le_mul_right _ (Nat.pow_pos (by decide))
            omega
          · exact LA.out
        have KD := divShort_at (b := 1000000000) L (by omega) (by decide) (by decide)
        rw [val_limbs] at KD
        have KD := Lib.hid KD
        have hr : gk % 1000000000 < 1000000000 := Nat.mod_lt _ (by decide)
        have lt : gk / 1000000000 < gk := Nat.div_lt_self (Nat.pos_of_ne_zero x0) (by decide)
        have hxq : gk / 1000000000 < 10 ^ (9 * (j - 1)) := by
          refine (Nat.div_lt_iff_lt_mul (by decide)).2 ?_
          rw [show 9 * j = 9 * (j - 1) + 9 by omega, Nat.pow_add] at hx
          exact hx
        have hv2 : dv (ds ++ pads 9 (gk % 1000000000)) + 10 ^ (ds ++ pads 9 (gk % 1000000000)).length * (gk / 1000000000) = a := by
          rw [dv_append, dv_pads _ _ (by exact hr), List.length_append, pads_length, Nat.pow_add]
          exact txt_step hv
        have HV := Lib.hid hv2
        have OWN := Lib.hid own
        have HJ := Lib.hid hj
        generalize gk % 1000000000 = r at *
        generalize gk / 1000000000 = q at *
        clear L own hx hv hv2 hj
        go_wp2_with fail
        refine KD.out.mono ?_
        rintro e w1 ⟨A1, n1, c1, rfl, L1, H1, B1⟩
        have own1 := own_next OWN.out B1
        have OL := own1.lt
        have KW := Lib.hid (withDigits_any (x := r) own1 (Nat.le_trans BL.size B1.size) (by have := HJ.out; omega) (by omega))
        have L1h := Lib.hid L1; have H1h := Lib.hid H1; have OLh := Lib.hid OWN.out.lt
        clear L1 H1 OL own1
        go_wp2_with fail
        refine KW.out.mono ?_
        rintro e w2 ⟨v2, rfl, S⟩
        have L2 := L1h.out.grown S.gr (fun ad e => by
          have b1 := H1h.out ad e
          intro q2
          have := (OLh.out _ q2.symm).2
          omega)
        have own2 : w2.ownsRow w.heap.size 5 1 v2 (ds ++ pads 9 r).length (((ds ++ pads 9 r).map dig).map bv) := by
          have := S.own
          rw [← List.map_append] at this
          rwa [List.length_append, pads_length]
        have BL2 : Below w.heap.size w w2 := (below_step BL B1).grown S.gr (Nat.le_trans BL.size B1.size) (fun k e => (OLh.out k e).1)
        have T2 : Txt w a q (.slice A1 n1 c1) v2 w2 := ⟨⟨A1, n1, c1, _, j - 1, rfl, L2, hd.append (dg_pads _ _), by rw [List.length_append, pads_length]; have := HJ.out; omega, hxq, HV.out, own2⟩, BL2⟩
        have T2h := Lib.hid T2
        clear L2 own2 BL2 T2 S
        go_wp2_with fail
        go_roundg q
        case measure => exact lt
        case rel =>
          go_light
          exact T2h.out
set_option maxRecDepth 100000 in
theorem text_none {A : Option Addr} {n c : Nat} {xs : List Nat} {w : World} (ha : Lim w A n c xs) (h : ¬ Nt xs) : Calls Tryd.prog 21 #[.slice A n c] w fun e w' => e = .returned (.string ⟨#[]⟩) ∧ w = w' := by
  have RA := Lib.hid (right_no ha h)
  clear ha h
  go_enter Tryd.func21, Tryd.ntmps21
  go_wp2_with fail
  refine RA.out.mono ?_
  rintro e w' ⟨rfl, rfl⟩
  go_wp2_with fail
  go_ret
  exact ⟨rfl, rfl⟩
end Go.Proofs.YtnacokogihanoaaDoor
