/- The walks of Reverse, Text. The walks of isText, small. The walks of timesAnd, Read. The walk of Read. The walks of Same and awake. The walk of awake: the fixed answer of the stage. Plain arithmetic for the laws: how long sums and products are. Fractions in memory; the walks of rat: Right, reduced. The walks of rat: products, crossed, Cmp, Mul, Div. The walks of rat: joined, Add, Sub. -/
import Derived.Test.YthollkngfibgaaaDoorJ04
import Derived.Laws.IdiomStrings
namespace Go.Proofs.YthollkngfibgaaaDoor
open Go.RowKit
set_option linter.unusedVariables false
set_option linter.unusedSimpArgs false

/-- So far turned round. -/
def Half2 (bs cs : List UInt8) (n i : Nat) : Prop := cs.length = n ∧ ∀ t, t < n → cs[t]? = if t < i ∨ n - i ≤ t then bs[n - 1 - t]? else bs[t]?
theorem Half2.start (bs : List UInt8) : Half2 bs bs bs.length 0 := ⟨rfl, fun t ht => by rw [if_neg (by omega)]⟩
theorem Half2.step {bs cs : List UInt8} {n i : Nat} (h : Half2 bs cs n i) (hi : i + 1 < n - i) : ∃ x y, cs[i]? = some x ∧ cs[n - 1 - i]? = some y ∧ Half2 bs ((cs.set i y).set (n - 1 - i) x) n (i + 1) := by
  have hl := h.1
  refine ⟨cs[i]'(by omega), cs[n - 1 - i]'(by omega), List.getElem?_eq_getElem _, List.getElem?_eq_getElem _, by simp [hl], ?_⟩
  intro t ht
  have e1 := h.2 i (by omega)
  have e2 := h.2 (n - 1 - i) (by omega)
  rw [if_neg (by omega)] at e1 e2
  by_cases a : t = n - 1 - i
  · subst a
    rw [List.getElem?_set_self (by simp; omega), if_pos (by omega), ← List.getElem?_eq_getElem, e1]
    congr 1
    omega
  · rw [List.getElem?_set_ne (by omega)]
    by_cases b : t = i
    · subst b
      rw [List.getElem?_set_self (by omega), if_pos (by omega), ← List.getElem?_eq_getElem, e2]
    · rw [List.getElem?_set_ne (by omega), h.2 t ht]
      by_cases c : t < i ∨ n - i ≤ t
      · rw [if_pos c, if_pos (by omega)]
      · rw [if_neg c, if_neg (by omega)]
theorem Half2.done {bs cs : List UInt8} {n i : Nat} (h : Half2 bs cs n i) (hb : bs.length = n) (hi : ¬ i + 1 < n - i) (hi2 : 2 * i ≤ n) : cs = bs.reverse := by
  apply List.ext_getElem?
  intro t
  by_cases ht : t < n
  · rw [h.2 t ht, List.getElem?_reverse (by omega), hb]
    by_cases c : t < i ∨ n - i ≤ t
    · rw [if_pos c]
    · rw [if_neg c]
      congr 1
      omega
  · rw [List.getElem?_eq_none (by rw [h.1]; omega), List.getElem?_eq_none (by simp; omega)]

set_option maxHeartbeats 2000000 in
set_option maxRecDepth 100000 in
theorem reverse_any {g n c : Nat} {bs : List UInt8} {ys : List Value} {w : World} (h : Brow w g bs ys) (hl : bs.length = n) (hn : n ≤ 100000) :
    Calls Tryd.prog 68 #[.slice (some ⟨g, 0, none⟩) n c] w fun e w' => e = .returned (.tuple #[]) ∧ Brow w' g bs.reverse ys ∧ Turn w w' g := by
  have S0 : Hid (Half2 bs bs n 0) := by unfold Hid; rw [← hl]; exact Half2.start bs
  have H0 := h
  have HL := Lib.hid hl
  clear h hl
  go_enter Tryd.func68, Tryd.ntmps68
  go_wp2_with fail
  go_loopg [2, 3] n (fun q s2 s3 wr => ∃ (i : Nat) (cs : List UInt8), i + q = n ∧ 2 * i ≤ n ∧ s2 = .int .i64 (i : Int) ∧ s3 = .int .i64 ((n : Int) - 1 - (i : Int)) ∧ Hid (Half2 bs cs n i) ∧ Brow wr g cs ys ∧ Turn w wr g)
  case atStart => exact ⟨0, bs, by omega, by omega, rfl, congrArg (Value.int .i64) (by omega), S0, H0, Turn.refl _ _⟩
  case round =>
    clear S0 H0
    obtain ⟨i, cs, hq, h2, rfl, rfl, S, R, T⟩ := hrel
    have HQ := Lib.hid hq
    by_cases lt : i + 1 < n - i
    · have il : (i : Int) < (n : Int) - 1 - (i : Int) := by omega
      obtain ⟨j, hj⟩ : ∃ j, i + j + 1 = n := ⟨n - 1 - i, by omega⟩
      have ej : (n : Int) - 1 - (i : Int) = (j : Int) := by omega
      rw [ej] at il ⊢
      obtain ⟨x, y, hx, hy, ST⟩ := S.out.step lt
      rw [show n - 1 - i = j by omega] at hy ST
      have ST := Lib.hid ST
      have ci : w = w := rfl
      obtain ⟨li, ei⟩ := List.getElem?_eq_some_iff.1 hx
      obtain ⟨lj, e2⟩ := List.getElem?_eq_some_iff.1 hy
      have c1 := R.cell i li
      have c2 := R.cell j lj
      rw [ei] at c1
      rw [e2] at c2
      have f1 := R.melt i
      have f2 := R.melt j
      have R2 := Lib.hid ((R.set_ i li y).set_ j (by simpa using lj) x)
      have T2 := Lib.hid ((T.setCell i (bv y)).setCell j (bv x))
      have i0 : (0 : Int) ≤ i := by omega
      have i1 : (i : Int) < n := by omega
      have j0 : (0 : Int) ≤ j := by omega
      have j1 : (j : Int) < n := by omega
      have ne : ¬ i = j := by omega
      have EJ := Lib.hid hj
      clear hx hy ei e2 S R T ci hq ej
      go_wp2_with fail
      go_region
      all_goals go_wp2_with fail
      all_goals go_roundg (gk - 1)
      case measure => have := HQ.out; omega
      case rel =>
        go_light
        exact ⟨i + 1, _, by have := HQ.out; omega, by omega, by go_num, congrArg (Value.int .i64) (by have := EJ.out; omega), ST, R2.out.drew, T2.out.drew⟩
    · have il : ¬ (i : Int) < (n : Int) - 1 - (i : Int) := by omega
      have e := S.out.done HL.out lt h2
      have R2 := Lib.hid (e ▸ R)
      have T2 := Lib.hid T
      clear S R T e hq
      go_wp2_with fail
      go_returns
      exact ⟨rfl, R2.out, T2.out⟩
theorem Brow.split {w : World} {g : Nat} {bs : List UInt8} {ys : List Value} (h : Brow w g bs ys) (k : Nat) : Brow w g (bs.take k) ((bs.drop k).map bv ++ ys) := by
  refine ⟨?_⟩
  rw [h.blk, ← List.append_assoc, ← List.map_append, List.take_append_drop]

theorem own_next {w w' : World} {base : Nat} {e : TypeId} {v : Value} {n : Nat} {xs : List Value} (h : w.ownsRow base e 1 v n xs) (hb : Below w.heap.size w w') : w'.ownsRow base e 1 v n xs := by
  obtain ⟨h1, h2⟩ := h
  refine ⟨h1, ?_⟩
  rcases h2 with h2 | ⟨g, cap, cur, hv, hg, hh, r⟩
  · exact Or.inl h2
  · exact Or.inr ⟨g, cap, cur, hv, hg, (hb.block g (Array.getElem?_eq_some_iff.1 hh).1).trans hh, r⟩
theorem Lim.grown {w w' : World} {A : Option Addr} {n c : Nat} {xs : List Nat} {row : Option Nat} (h : Lim w A n c xs) (hg : w.grownBy w' row) (hne : ∀ ad, A = some ad → some ad.block ≠ row) : Lim w' A n c xs :=
  ⟨h.len, h.cap, h.top, fun j hj => by
    obtain ⟨ad, e, hc⟩ := h.at_ j hj
    refine ⟨ad, e, hg.cell hc ?_⟩
    rw [block_add]
    exact hne ad e, h.lo⟩
/-- What is in the loop of Text. -/
structure Txt (w : World) (a x : Nat) (s0 s3 : Value) (wr : World) : Prop where
  ex : ∃ A n c ds j, s0 = .slice A n c ∧ Lim wr A n c (limbs x) ∧ Dg ds ∧ ds.length + 9 * j = 630 ∧ x < 10 ^ (9 * j) ∧ dv ds + 10 ^ ds.length * x = a ∧ wr.ownsRow w.heap.size 5 1 s3 ds.length ((ds.map dig).map bv)
  bl : Below w.heap.size w wr
theorem txt_step {P D x a : Nat} (h : D + P * x = a) : D + P * (x % 1000000000) + P * 1000000000 * (x / 1000000000) = a := by
  have e : x = x % 1000000000 + 1000000000 * (x / 1000000000) := by omega
  have : P * x = P * (x % 1000000000) + P * 1000000000 * (x / 1000000000) := by
    conv => lhs; rw [e, Nat.mul_add, ← Nat.mul_assoc]
  omega
theorem lt_630 {a : Nat} (h : ln a ≤ 64) : a < 10 ^ (9 * 70) := by
  have h1 := Nat.lt_of_lt_of_le (lt_ln a) (Nat.pow_le_pow_right B_pos h)
  rw [B_eq] at h1
  exact Nat.lt_trans h1 (by decide +kernel)

set_option maxHeartbeats 2000000 in
set_option maxRecDepth 100000 in
theorem text_any {A : Option Addr} {n c a : Nat} {w : World} (ha : Lim w A n c (limbs a)) (la : ln a ≤ 64) : Calls Tryd.prog 44 #[.slice A n c] w fun e w' => e = .returned (.string ⟨(dtext a).toArray⟩) ∧ Below w.heap.size w w' := by
  have RA := Lib.hid (right_yes ha la)
  have hl := ha.len
  rw [limbs_length] at hl
  by_cases hz : n = 0
  · subst hz
    have e := ln_eq_zero hl
    subst e
    have E := Lib.hid dtext_zero
    clear ha hl la
    go_enter Tryd.func44, Tryd.ntmps44
    go_wp2_with fail
    refine RA.out.mono ?_
    rintro e w' ⟨rfl, rfl⟩
    go_wp2_with fail
    go_ret
    exact ⟨by rw [E.out]; rfl, Below.refl _ _⟩
  · have h0 : ((n : Int) == 0) = false := by simpa using hz
    have a0 : a ≠ 0 := by rintro rfl; rw [ln_zero] at hl; omega
    have S0 : Txt w a a (.slice A n c) (.slice none 0 0) w := ⟨⟨A, n, c, [], 70, rfl, ha, .nil, rfl, lt_630 la, by simp [dv], World.ownsRow_nil w _ _ _⟩, Below.refl _ _⟩
    have A0 := Lib.hid a0
    have LA : Hid (ln a ≤ 70) := Nat.le_trans la (by decide)
    clear ha hl la a0
    go_enter Tryd.func44, Tryd.ntmps44
    go_wp2_with fail
    refine RA.out.mono ?_
    rintro e w' ⟨rfl, rfl⟩
    go_wp2_with fail
    go_loopg [0, 3] a (fun x s0 s3 wr => Txt w a x s0 s3 wr)
    case atStart => exact S0
    case round =>
      clear S0 RA
      obtain ⟨A, n, c, ds, j, rfl, L, hd, hj, hx, hv, own⟩ := hrel.ex
      have BL := hrel.bl
      have hl := L.len
      rw [limbs_length] at hl
      clear hrel
      by_cases x0 : gk = 0
      · subst x0
        rw [ln_zero] at hl
        subst hl
        rw [Nat.mul_zero, Nat.add_zero] at hv
        have k0 : 0 < ds.length := by
          rcases Nat.eq_zero_or_pos ds.length with k | k
          · have := List.eq_nil_of_length_eq_zero k
            subst this
            exact absurd hv.symm A0.out
          · exact k
        obtain ⟨g, c2, ys, rfl, hg, hc2, hm, _, R⟩ := own_brow own k0
        unfold maxLen at hm
        have KT := Lib.hid (trimRight_any R hd rfl hc2 hm k0)
        have DT : Hid (dtext a = ((tens a).map dig).reverse) := dtext_pos A0.out
        have k630 : ds.length ≤ 630 := by omega
        have HV := Lib.hid hv
        have HR := Lib.hid R
        clear L own hd hj hx hv R
        go_wp2_with fail
        refine KT.out.mono ?_
        rintro e w2 ⟨k, hk, rfl, E, rfl⟩
        rw [HV.out] at E
        have R2 := HR.out.split k
        rw [← List.map_take, E] at R2
        have tl : ((tens a).map dig).length = k := by rw [← E]; simp; omega
        have KR := Lib.hid (reverse_any (n := k) (c := c2) R2 tl (by omega))
        have TL := Lib.hid tl
        clear R2 E tl
        go_wp2_with fail
        refine KR.out.mono ?_
        rintro e w3 ⟨rfl, R3, T3⟩
        rw [← DT.out] at R3
        have dl : (dtext a).length = k := by rw [DT.out, List.length_reverse]; exact TL.out
        have hconv : (convert 92 9 (.slice (some ⟨g, 0, none⟩) k c2)).run Tryd.prog w3 = .ok (.string ⟨(dtext a).toArray⟩) w3 := by
          rw [← dl]
          refine run_convert_bytes_back w3 92 9 5 ⟨g, 0, none⟩ _ (dtext a) Tryd.underlying92 Tryd.underlying5 Tryd.underlying9 ?_
          intro j hj
          rw [add_lit, Nat.zero_add]
          exact R3.cell j hj
        have BL3 := BL.trans (T3.below hg)
        clear R3 T3 dl
        go_wp2_with fail
        go_ret
        exact ⟨rfl, BL3⟩
      · have xp := ln_pos x0
        have i0 : (0 : Int) < n := by omega
        have j1 : 1 ≤ j := by
          rcases Nat.eq_zero_or_pos j with q | q
          · subst q
            simp at hx
            exact absurd hx x0
          · exact q
        have n64 : n ≤ 70 := by
          rw [← hl]
          refine Nat.le_trans (ln_mono (b := a) ?_) ?_
          · have : 1 * gk ≤ 10 ^ ds.length * gk := Nat.mul_le_mul_right _ (Nat.pow_pos (by decide))
            omega
          · exact LA.out
        have KD := divShort_at (b := 1000000000) L (by omega) (by decide) (by decide)
        rw [val_limbs] at KD
        have KD := Lib.hid KD
        have hr : gk % 1000000000 < 1000000000 := Nat.mod_lt _ (by decide)
        have lt : gk / 1000000000 < gk := Nat.div_lt_self (Nat.pos_of_ne_zero x0) (by decide)
        have hxq : gk / 1000000000 < 10 ^ (9 * (j - 1)) := by
          refine (Nat.div_lt_iff_lt_mul (by decide)).2 ?_
          rw [show 9 * j = 9 * (j - 1) + 9 by omega, Nat.pow_add] at hx
          exact hx
        have hv2 : dv (ds ++ pads 9 (gk % 1000000000)) + 10 ^ (ds ++ pads 9 (gk % 1000000000)).length * (gk / 1000000000) = a := by
          rw [dv_append, dv_pads _ _ (by exact hr), List.length_append, pads_length, Nat.pow_add]
          exact txt_step hv
        have HV := Lib.hid hv2
        have OWN := Lib.hid own
        have HJ := Lib.hid hj
        generalize gk % 1000000000 = r at *
        generalize gk / 1000000000 = q at *
        clear L own hx hv hv2 hj
        go_wp2_with fail
        refine KD.out.mono ?_
        rintro e w1 ⟨A1, n1, c1, rfl, L1, H1, B1⟩
        have own1 := own_next OWN.out B1
        have OL := own1.lt
        have KW := Lib.hid (withDigits_any (x := r) own1 (Nat.le_trans BL.size B1.size) (by have := HJ.out; omega) (by omega))
        have L1h := Lib.hid L1; have H1h := Lib.hid H1; have OLh := Lib.hid OWN.out.lt
        clear L1 H1 OL own1
        go_wp2_with fail
        refine KW.out.mono ?_
        rintro e w2 ⟨v2, rfl, S⟩
        have L2 := L1h.out.grown S.gr (fun ad e => by
          have b1 := H1h.out ad e
          intro q2
          have := (OLh.out _ q2.symm).2
          omega)
        have own2 : w2.ownsRow w.heap.size 5 1 v2 (ds ++ pads 9 r).length (((ds ++ pads 9 r).map dig).map bv) := by
          have := S.own
          rw [← List.map_append] at this
          rwa [List.length_append, pads_length]
        have BL2 : Below w.heap.size w w2 := (below_step BL B1).grown S.gr (Nat.le_trans BL.size B1.size) (fun k e => (OLh.out k e).1)
        have T2 : Txt w a q (.slice A1 n1 c1) v2 w2 := ⟨⟨A1, n1, c1, _, j - 1, rfl, L2, hd.append (dg_pads _ _), by rw [List.length_append, pads_length]; have := HJ.out; omega, hxq, HV.out, own2⟩, BL2⟩
        have T2h := Lib.hid T2
        clear L2 own2 BL2 T2 S
        go_wp2_with fail
        go_roundg q
        case measure => exact lt
        case rel =>
          go_light
          exact T2h.out
set_option maxRecDepth 100000 in
theorem text_none {A : Option Addr} {n c : Nat} {xs : List Nat} {w : World} (ha : Lim w A n c xs) (h : ¬ Nt xs) : Calls Tryd.prog 44 #[.slice A n c] w fun e w' => e = .returned (.string ⟨#[]⟩) ∧ w = w' := by
  have RA := Lib.hid (right_no ha h)
  clear ha h
  go_enter Tryd.func44, Tryd.ntmps44
  go_wp2_with fail
  refine RA.out.mono ?_
  rintro e w' ⟨rfl, rfl⟩
  go_wp2_with fail
  go_ret
  exact ⟨rfl, rfl⟩
end Go.Proofs.YthollkngfibgaaaDoor
namespace Go.Proofs.YthollkngfibgaaaDoor
open Go.RowKit
set_option linter.unusedVariables false
set_option linter.unusedSimpArgs false

/-- A string's bytes. -/
abbrev L (s : ByteArray) : List UInt8 := s.data.toList
theorem L_len (s : ByteArray) : (L s).length = s.size := by simp [L]
theorem L_at (s : ByteArray) (k : Nat) (h : k < s.size) : (L s)[k]'(by rw [L_len]; exact h) = s[k] := rfl
theorem L_of (l : List UInt8) : L ⟨l.toArray⟩ = l := rfl
theorem of_L (s : ByteArray) : (⟨(L s).toArray⟩ : ByteArray) = s := rfl
theorem L_take (s : ByteArray) (k : Nat) (h : k ≤ s.size) : L (s.extract 0 k) = (L s).take k := by
  simp [L, ByteArray.data_extract]
theorem L_drop (s : ByteArray) (k : Nat) (h : k ≤ s.size) : L (s.extract k s.size) = (L s).drop k := by
  have e : s.data.size = s.size := rfl
  simp only [L, ByteArray.data_extract, Array.toList_extract, List.extract_eq_take_drop]
  rw [List.take_of_length_le]
  simp [e]
theorem empty_no {s : ByteArray} (h : 0 < s.size) : s.toList.isEmpty = false ∧ ¬ s.toList = [] := by
  have : s.toList = L s := ByteArray.toList_eq s
  rw [this]
  have hl := L_len s
  constructor
  · cases e : L s with
    | nil => rw [e] at hl; simp at hl; omega
    | cons a b => rfl
  · intro e
    rw [e] at hl
    simp at hl
    omega

/-- Whether it is a text. -/
def RetI (l : List UInt8) (w : World) (e : Ending) (w' : World) : Prop := ∃ b : Bool, e = .returned (.bool b) ∧ (b = true ↔ isT l) ∧ w = w'
theorem not_isD {c : UInt8} (h : (c.toNat : Int) < 48 ∨ 57 < (c.toNat : Int)) : ¬ isD c := by unfold isD; omega
theorem byte48 {c : UInt8} (h : (c.toNat : Int) = 48) : c = 48 := by
  apply UInt8.toNat_inj.1
  have : (48 : UInt8).toNat = 48 := rfl
  omega
theorem L_head (s : ByteArray) (h : 0 < s.size) : (L s).head? = some s[0] := by
  rw [List.head?_eq_getElem?, List.getElem?_eq_getElem (by rw [L_len]; exact h)]
  rfl
theorem rd_take_lt {l : List UInt8} (h : ∀ c ∈ l, isD c) (k : Nat) : rd (l.take k) < 10 ^ (l.take k).length := rd_lt _ (fun c hc => h c (List.mem_of_mem_take hc))
end Go.Proofs.YthollkngfibgaaaDoor
namespace Go.Proofs.YthollkngfibgaaaDoor
open Go.RowKit
set_option linter.unusedVariables false
set_option linter.unusedSimpArgs false

theorem only_setCell {a w : World} {g : Nat} (h : a.grownBy w (some g)) (i : Nat) (u : Value) : a.grownBy (w.setCell ⟨g, i, none⟩ u) (some g) :=
  ⟨h.os, h.tape, h.output, by simpa [World.setCell] using h.size, fun i hi hne => (Below.heap_setCell w _ u i (by
    rintro rfl
    exact hne rfl)).trans (h.block i hi hne)⟩
/-- What is in the loop of timesAnd. -/
structure Tma (w : World) (base : Nat) (A : Option Addr) (n c : Nat) (xs : List Nat) (f z i k : Nat) (wr : World) : Prop where
  ss : ∃ ss, ss.length = i ∧ Lo ss ∧ val ss + B ^ i * k = val (xs.take i) * f + z ∧ wr.ownsRow base 49 1 (.slice A n c) n ((ss ++ xs.drop i).map lv)
  kb : k < 4294967296
  gr : w.grownBy wr (Value.slice A n c).ownBlock
theorem tma_step {P V X S f x k z T : Nat} (h : V + P * k = X * f + z) (ht : T = x * f + k) : V + P * (T % 4294967296) + P * 4294967296 * (T / 4294967296) = (X + P * x) * f + z := by
  have e2 : T = T % 4294967296 + 4294967296 * (T / 4294967296) := by omega
  have e3 : P * T = P * (T % 4294967296) + P * 4294967296 * (T / 4294967296) := by
    conv => lhs; rw [e2, Nat.mul_add, ← Nat.mul_assoc]
  have e4 : P * T = P * (x * f) + P * k := by rw [ht, Nat.mul_add]
  rw [Nat.add_mul, Nat.mul_assoc P x f]
  omega
theorem Tma.step {w : World} {base g n c : Nat} {xs : List Nat} {f z i k : Nat} {wr : World} (h : Tma w base (some ⟨g, 0, none⟩) n c xs f z i k wr) (hf : f < 4294967296) (hi : i < xs.length) (hn : xs.length = n) (lx : Lo xs) :
    wr.cell? ⟨g, i, none⟩ = some (lv xs[i]) ∧ wr.frozen? ⟨g, i, none⟩ = false ∧
      Tma w base (some ⟨g, 0, none⟩) n c xs f z (i + 1) ((xs[i] * f + k) / 4294967296) (wr.setCell ⟨g, i, none⟩ (lv ((xs[i] * f + k) % 4294967296))) := by
  obtain ⟨ss, hl, lo, hv, own⟩ := h.ss
  have hk := h.kb
  have hx := lx.at_ i hi
  have hxf : xs[i] * f ≤ 4294967295 * 4294967295 := Nat.mul_le_mul (by omega) (by omega)
  have ed : xs.drop i = xs[i] :: xs.drop (i + 1) := List.drop_eq_getElem_cons hi
  refine ⟨?_, own.frozenAt i, ⟨ss ++ [(xs[i] * f + k) % 4294967296], by simp [hl], lo.append (.cons (Nat.mod_lt _ (by decide)) .nil), ?_, ?_⟩, ?_, ?_⟩
  · rw [own.cellAt i (by omega), List.getElem?_map, List.getElem?_append_right (by omega), hl, Nat.sub_self, ed]
    rfl
  · rw [val_snoc, hl, val_take_succ xs i hi, Nat.pow_succ, show B ^ i * B = B ^ i * 4294967296 by rw [B_eq]]
    exact tma_step (S := 0) hv rfl
  · have := (own.stored i (lv ((xs[i] * f + k) % 4294967296))).1
    rw [← List.map_set, ed, List.set_append_right _ _ (by omega), hl, Nat.sub_self, List.set_cons_zero] at this
    rw [List.append_assoc]
    exact this
  · generalize xs[i] * f = q at *
    omega
  · exact only_setCell h.gr i _
/-- A natural of the call's own. -/
def RetM (w : World) (base : Nat) (v : Value) (r : Nat) (e : Ending) (w' : World) : Prop := ∃ v', e = .returned v' ∧ w'.ownsRow base 49 1 v' (ln r) ((limbs r).map lv) ∧ w.grownBy w' v.ownBlock
theorem limbs_of {ys : List Nat} (lo : Lo ys) (h : ys = [] ∨ B ^ (ys.length - 1) ≤ val ys) : ys = limbs (val ys) := by
  refine (limbs_val lo (fun hn => ?_)).symm
  rcases h with h | h
  · exact absurd h hn
  · have hl : 0 < ys.length := List.length_pos_iff.2 hn
    rw [List.getLast_eq_getElem]
    exact top_ne (m := ys.length - 1) (by omega) lo h
theorem cast_div3 (y k : Nat) : ((y : Int) * 1000000000 + (k : Int)) / 4294967296 = (((y * 1000000000 + k) / 4294967296 : Nat) : Int) := by omega
theorem cast_mod3 (y k : Nat) : ((y : Int) * 1000000000 + (k : Int)) % 4294967296 = (((y * 1000000000 + k) % 4294967296 : Nat) : Int) := by omega

end Go.Proofs.YthollkngfibgaaaDoor
namespace Go.Proofs.YthollkngfibgaaaDoor
open Go.RowKit
set_option linter.unusedVariables false
set_option linter.unusedSimpArgs false

theorem own_form {w : World} {base n : Nat} {v : Value} {xs : List Value} (h : w.ownsRow base 49 1 v n xs) : ∃ A c, v = .slice A n c ∧ (0 < n → ∃ g, A = some ⟨g, 0, none⟩) := by
  rcases h.2 with ⟨rfl, rfl⟩ | ⟨g, cap, cur, rfl, _⟩
  · exact ⟨none, 0, rfl, fun h => absurd h (by omega)⟩
  · exact ⟨_, cap, rfl, fun _ => ⟨g, rfl⟩⟩
/-- What is in the loop of Read. -/
structure Rdr (w : World) (s : ByteArray) (q : Nat) (s0 s4 : Value) (wr : World) : Prop where
  ex : ∃ (p : List UInt8) (t : ByteArray) (A : Option Addr) (n c : Nat), s0 = .string t ∧ t.size = q ∧ s4 = .slice A n c ∧ L s = p ++ L t ∧ (p = [] ∨ t.size % 9 = 0) ∧
    wr.ownsRow w.heap.size 49 1 (.slice A n c) n ((limbs (rd p)).map lv) ∧ (0 < n → ∃ g, A = some ⟨g, 0, none⟩) ∧ n ≤ 64
  bl : Below w.heap.size w wr

end Go.Proofs.YthollkngfibgaaaDoor
namespace Go.Proofs.YthollkngfibgaaaDoor
open Go.RowKit
set_option linter.unusedVariables false
set_option linter.unusedSimpArgs false

/-- Are limbs the same? -/
@[irreducible] def sameB (xs ys : List Nat) : Bool := decide (xs = ys)
theorem sameB_yes (xs : List Nat) : sameB xs xs = true := by unfold sameB; simp
theorem sameB_no {xs ys : List Nat} (h : xs ≠ ys) : sameB xs ys = false := by unfold sameB; simpa using h
theorem sameB_iff {xs ys : List Nat} : sameB xs ys = true ↔ xs = ys := by unfold sameB; simp
theorem take_differ {xs ys : List Nat} {k : Nat} (hx : k < xs.length) (hy : k < ys.length) (h : xs[k] ≠ ys[k]) : xs ≠ ys := by
  rintro rfl; exact h rfl
set_option maxHeartbeats 1000000 in
set_option maxRecDepth 100000 in
theorem same_any {A A' : Option Addr} {n c n' c' : Nat} {xs ys : List Nat} {w : World} (ha : Lim w A n c xs) (hb : Lim w A' n' c' ys) :
    Calls Tryd.prog 35 #[.slice A n c, .slice A' n' c'] w fun e w' => e = .returned (.bool (sameB xs ys)) ∧ ∃ m, w' = w.drewN m := by
  have hl := ha.len; have hl' := hb.len
  by_cases hn : n = n'
  · subst hn
    have HA := Lib.hid ha; have HB := Lib.hid hb
    have h0 : ((n : Int) != n) = false := by simp
    have ht := ha.top; have hc := ha.cap
    have HL := Lib.hid hl; have HL' := Lib.hid hl'
    clear ha hb hl hl'
    go_enter Tryd.func35, Tryd.ntmps35
    go_wp2_with fail
    go_loopg [5] n (fun q s5 wr => ∃ k m : Nat, k + q = n ∧ s5 = .int .i64 (k : Int) ∧ Hid (xs.take k = ys.take k) ∧ wr = w.drewN m)
    case atStart => exact ⟨0, 0, by omega, rfl, rfl, rfl⟩
    case round =>
      obtain ⟨k, m, hq, rfl, he, rfl⟩ := hrel
      have HQ := Lib.hid hq
      by_cases lt : k < n
      · have il : (k : Int) < n := by omega
        have il0 : (0 : Int) ≤ k := by omega
        obtain ⟨ad, rfl⟩ := HA.out.some_ (by omega)
        obtain ⟨ad', rfl⟩ := HB.out.some_ (by omega)
        have kx : k < xs.length := by rw [HL.out]; omega
        have ky : k < ys.length := by rw [HL'.out]; omega
        have c1 := HA.out.cell k kx
        have c2 := HB.out.cell k ky
        by_cases hx : xs[k] = ys[k]
        · have HE : Hid (xs.take (k + 1) = ys.take (k + 1)) := by unfold Hid; rw [take_snoc xs k kx, take_snoc ys k ky, he.out, hx]
          rw [← hx] at c2
          generalize xs[k] = x at *
          have h2 : ((x : Int) != x) = false := by simp
          clear hx hq he
          go_wp2_with fail
          go_quiet (fail)
          go_wp2_with fail
          go_roundg (gk - 1)
          case measure => have := HQ.out; omega
          case rel => exact ⟨k + 1, m + nq, by have := HQ.out; omega, by go_num, HE, rfl⟩
        · have ES := Lib.hid (sameB_no (take_differ kx ky hx))
          generalize xs[k] = x at *
          generalize ys[k] = y at *
          have h2 : ((x : Int) != y) = true := by simp; omega
          clear hx hq he
          go_wp2_with fail
          go_quiet (fail)
          go_wp2_with fail
          go_ret
          exact ⟨by rw [ES.out]; rfl, m + nq, World.drewN_drewN _ _ _⟩
      · obtain rfl : n = k := by omega
        have il : ¬ (n : Int) < n := by omega
        have e : xs = ys := by
          have := he.out
          rwa [List.take_of_length_le (by rw [HL.out]; exact Nat.le_refl _), List.take_of_length_le (by rw [HL'.out]; exact Nat.le_refl _)] at this
        subst e
        have ES := Lib.hid (sameB_yes xs)
        clear hq he
        go_wp2_with fail
        go_ret
        exact ⟨by rw [ES.out]; rfl, _, rfl⟩
  · have ES := Lib.hid (sameB_no (xs := xs) (ys := ys) (by rintro rfl; omega))
    have h0 : ((n : Int) != n') = true := by simp; omega
    clear ha hb hl hl'
    go_enter Tryd.func35, Tryd.ntmps35
    go_wp2_with fail
    go_ret
    exact ⟨by rw [ES.out]; rfl, 0, rfl⟩
/-- .. and nothing that was there has turned. -/
theorem same_bel {A A' : Option Addr} {n c n' c' : Nat} {xs ys : List Nat} {w : World} (ha : Lim w A n c xs) (hb : Lim w A' n' c' ys) :
    Calls Tryd.prog 35 #[.slice A n c, .slice A' n' c'] w fun e w' => e = .returned (.bool (sameB xs ys)) ∧ Below w.heap.size w w' :=
  (same_any ha hb).mono fun _ _ ⟨he, m, hm⟩ => ⟨he, by subst hm; exact below_drewN (Below.refl _ _) m⟩
theorem cmp_bel {A A' : Option Addr} {n c n' c' a b : Nat} {w : World} (ha : Lim w A n c (limbs a)) (hb : Lim w A' n' c' (limbs b)) (la : ln a ≤ 64) (lb : ln b ≤ 64) :
    Calls Tryd.prog 43 #[.slice A n c, .slice A' n' c'] w fun e w' => e = .returned (.int .i64 (sgn a b)) ∧ Below w.heap.size w w' :=
  (cmp_any ha hb la lb).mono fun _ _ ⟨he, m, hm⟩ => ⟨he, by subst hm; exact below_drewN (Below.refl _ _) m⟩

theorem text_a : dtext 18446744073709551616 = [49, 56, 52, 52, 54, 55, 52, 52, 48, 55, 51, 55, 48, 57, 53, 53, 49, 54, 49, 54] := by
  rw [dtext_pos (by decide)]; simp [tens_step, dig]
theorem text_q : dtext 1844674407370955161 = [49, 56, 52, 52, 54, 55, 52, 52, 48, 55, 51, 55, 48, 57, 53, 53, 49, 54, 49] := by
  rw [dtext_pos (by decide)]; simp [tens_step, dig]
theorem text_d : dtext 6 = [54] := by
  rw [dtext_pos (by decide)]; simp [tens_step, dig]
theorem limbs_a : limbs 18446744073709551616 = [0, 0, 1] := by
  have := limbs_val (xs := [0, 0, 1]) (.cons (by decide) (.cons (by decide) (.cons (by decide) .nil))) (fun _ => by simp)
  rwa [val_cons, val_cons, val_cons, val_nil, B_eq] at this
theorem ln_small {n : Nat} (h : n < 340282366920938463463374607431768211457) : ln n ≤ 5 := by
  refine ln_le ?_
  rw [B_eq]
  refine Nat.lt_trans h (by decide +kernel)
theorem bl_m : bl 340282366920938463463374607431768211456 = 129 := bl_of (k := 128) (by decide) (by decide)
end Go.Proofs.YthollkngfibgaaaDoor
namespace Go.Proofs.YthollkngfibgaaaDoor
open Go.RowKit
set_option linter.unusedVariables false
set_option linter.unusedSimpArgs false

/-- Slices that lie there, with their limbs. -/
def Lies : List (Option Addr × Nat × Nat × List Nat) → World → Prop
  | [], _ => True
  | (A, n, c, xs) :: r, w => Lim w A n c xs ∧ Lies r w
theorem Lies.next {w w' : World} (hb : Below w.heap.size w w') : ∀ {l : List (Option Addr × Nat × Nat × List Nat)}, Lies l w → Lies l w'
  | [], _ => trivial
  | (_, _, _, _) :: _, h => ⟨h.1.next hb, Lies.next hb h.2⟩
/-- .. and nothing that was there has turned. -/
structure Sts (w : World) (l : List (Option Addr × Nat × Nat × List Nat)) (wx : World) : Prop where
  lie : Lies l wx
  bl : Below w.heap.size w wx
theorem Sts.start (w : World) : Sts w [] w := ⟨trivial, Below.refl _ _⟩
theorem Sts.next {w : World} {l : List (Option Addr × Nat × Nat × List Nat)} {W w1 : World} (s : Sts w l W) (hb : Below W.heap.size W w1) : Sts w l w1 := ⟨s.lie.next hb, below_step s.bl hb⟩
theorem Sts.drewN {w : World} {l : List (Option Addr × Nat × Nat × List Nat)} {W : World} (s : Sts w l W) (m : Nat) : Sts w l (W.drewN m) := s.next (below_drewN (Below.refl _ _) m)
theorem Sts.drew {w : World} {l : List (Option Addr × Nat × Nat × List Nat)} {W : World} (s : Sts w l W) : Sts w l W.drew := s.next (Below.refl _ _).drew
theorem Sts.put {w : World} {l : List (Option Addr × Nat × Nat × List Nat)} {W : World} {A : Option Addr} {n c : Nat} {xs : List Nat} (s : Sts w l W) (h : Lim W A n c xs) : Sts w ((A, n, c, xs) :: l) W := ⟨⟨h, s.lie⟩, s.bl⟩

theorem eN1 : 18446744073709551616 / 10 = 1844674407370955161 := by decide
theorem eN2 : 18446744073709551616 % 10 = 6 := by decide
theorem eN3 : 18446744073709551616 * 18446744073709551616 = 340282366920938463463374607431768211456 := by decide
theorem eN4 : Nat.gcd 12 18 = 6 := by decide
theorem lN : ln 18446744073709551616 ≤ 64 := Nat.le_trans (ln_small (by decide)) (by decide)
theorem lM : ln 340282366920938463463374607431768211456 ≤ 64 := Nat.le_trans (ln_small (by decide)) (by decide)
theorem ln_tiny {n : Nat} (h : n ≤ 1844674407370955161) : ln n ≤ 64 := Nat.le_trans (ln_small (by omega)) (by decide)
end Go.Proofs.YthollkngfibgaaaDoor
namespace Go.Proofs.YthollkngfibgaaaDoor
theorem ln_mul {a b n m : Nat} (ha : ln a ≤ n) (hb : ln b ≤ m) : ln (a * b) ≤ n + m := by
  refine ln_le ?_
  rw [Nat.pow_add]
  have h1 := Nat.lt_of_lt_of_le (lt_ln a) (Nat.pow_le_pow_right B_pos ha)
  have h2 := Nat.lt_of_lt_of_le (lt_ln b) (Nat.pow_le_pow_right B_pos hb)
  exact Nat.mul_lt_mul'' h1 h2
theorem ln_add {a b n : Nat} (ha : ln a ≤ n) (hb : ln b ≤ n) : ln (a + b) ≤ n + 1 := by
  refine ln_le ?_
  rw [Nat.pow_succ]
  have h1 := Nat.lt_of_lt_of_le (lt_ln a) (Nat.pow_le_pow_right B_pos ha)
  have h2 := Nat.lt_of_lt_of_le (lt_ln b) (Nat.pow_le_pow_right B_pos hb)
  have h3 : B ^ n * 2 ≤ B ^ n * B := Nat.mul_le_mul_left _ (by rw [B_eq]; decide)
  omega
theorem bl_mono {a b : Nat} (h : a ≤ b) : bl a ≤ bl b := bl_le (Nat.lt_of_le_of_lt h (lt_bl b))
theorem bl_eq_zero {a : Nat} (h : bl a = 0) : a = 0 := by
  apply Decidable.byContradiction
  intro k
  have := bl_pos k
  omega
theorem bl_mul {a b : Nat} (ha : a ≠ 0) (hb : b ≠ 0) : bl (a * b) = bl a + bl b ∨ bl (a * b) + 1 = bl a + bl b := by
  have a1 := lt_bl a; have a2 := le_bl ha; have a3 := bl_pos ha
  have b1 := lt_bl b; have b2 := le_bl hb; have b3 := bl_pos hb
  have hi : a * b < 2 ^ (bl a + bl b) := by rw [Nat.pow_add]; exact Nat.mul_lt_mul'' a1 b1
  have lo : 2 ^ (bl a - 1 + (bl b - 1)) ≤ a * b := by rw [Nat.pow_add]; exact Nat.mul_le_mul a2 b2
  have u := bl_le hi
  have nz : a * b ≠ 0 := Nat.mul_ne_zero ha hb
  have l : bl a - 1 + (bl b - 1) < bl (a * b) := pow_lt_pow_iff (Nat.lt_of_le_of_lt lo (lt_bl _))
  omega
theorem bl_add (a b : Nat) : max (bl a) (bl b) ≤ bl (a + b) ∧ bl (a + b) ≤ max (bl a) (bl b) + 1 := by
  have m1 := bl_mono (show a ≤ a + b by omega)
  have m2 := bl_mono (show b ≤ a + b by omega)
  refine ⟨Nat.max_le.2 ⟨m1, m2⟩, bl_le ?_⟩
  rw [Nat.pow_succ]
  have h1 := Nat.lt_of_lt_of_le (lt_bl a) (Nat.pow_le_pow_right (n := 2) (by decide) (Nat.le_max_left (bl a) (bl b)))
  have h2 := Nat.lt_of_lt_of_le (lt_bl b) (Nat.pow_le_pow_right (n := 2) (by decide) (Nat.le_max_right (bl a) (bl b)))
  omega
theorem bl_ln {a : Nat} {n : Nat} (h : ln a ≤ n) : bl a ≤ 32 * n := by
  refine bl_le ?_
  rw [← B_pow]
  exact Nat.lt_of_lt_of_le (lt_ln a) (Nat.pow_le_pow_right B_pos h)
end Go.Proofs.YthollkngfibgaaaDoor
namespace Go.Proofs.YthollkngfibgaaaDoor
open Go.RowKit
set_option linter.unusedVariables false
set_option linter.unusedSimpArgs false

/-- Blocks of two cells that lie there, with what is in them. -/
def Cels : List (Nat × Value × Value) → World → Prop
  | [], _ => True
  | (b, u, v) :: r, w => (w.cell? ⟨b, 0, none⟩ = some u ∧ w.cell? ⟨b, 1, none⟩ = some v ∧ w.frozen? ⟨b, 0, none⟩ = false ∧ w.frozen? ⟨b, 1, none⟩ = false ∧ b < w.heap.size) ∧ Cels r w
theorem Cels.next {w w' : World} (hb : Below w.heap.size w w') : ∀ {l : List (Nat × Value × Value)}, Cels l w → Cels l w'
  | [], _ => trivial
  | (_, _, _) :: _, h => ⟨⟨keep_cell hb h.1.1, keep_cell hb h.1.2.1, keep_melt hb h.1.1 h.1.2.2.1, keep_melt hb h.1.2.1 h.1.2.2.2.1, Nat.lt_of_lt_of_le h.1.2.2.2.2 hb.size⟩, Cels.next hb h.2⟩
/-- What lies there, in a call that began at w. -/
structure Fs (w : World) (cs : List (Nat × Value × Value)) (l : List (Option Addr × Nat × Nat × List Nat)) (wx : World) : Prop where
  lie : Lies l wx
  cel : Cels cs wx
  bl : Below w.heap.size w wx
section
variable {w W w1 : World} {cs : List (Nat × Value × Value)} {l : List (Option Addr × Nat × Nat × List Nat)}
theorem Fs.start (w : World) : Fs w [] [] w := ⟨trivial, trivial, Below.refl _ _⟩
theorem Fs.next (s : Fs w cs l W) (hb : Below W.heap.size W w1) : Fs w cs l w1 := ⟨s.lie.next hb, s.cel.next hb, below_step s.bl hb⟩
theorem Fs.drew (s : Fs w cs l W) : Fs w cs l W.drew := s.next (Below.refl _ _).drew
theorem Fs.put {A : Option Addr} {n c : Nat} {xs : List Nat} (s : Fs w cs l W) (h : Lim W A n c xs) : Fs w cs ((A, n, c, xs) :: l) W := ⟨⟨h, s.lie⟩, s.cel, s.bl⟩
theorem Fs.box (s : Fs w cs l W) (u v : Value) : Fs w ((W.heap.size, u, v) :: cs) l (W.alloc (.cells #[u, v] 30)) := by
  have hb : Below W.heap.size W (W.alloc (.cells #[u, v] 30)) := (Below.refl _ _).alloc (Nat.le_refl _) _
  exact ⟨s.lie.next hb, ⟨⟨by simp [go_sem], by simp [go_sem], by simp [go_sem], by simp [go_sem], by simp⟩, s.cel.next hb⟩, below_step s.bl hb⟩
end
theorem Lim.setSl {w : World} {A B : Option Addr} {n c m k : Nat} {xs : List Nat} {p : Addr} (h : Lim w A n c xs) (hc : w.cell? p = some (.slice B m k)) (u : Value) : Lim (w.setCell p u) A n c xs :=
  ⟨h.len, h.cap, h.top, fun j hj => by
    obtain ⟨ad, e, q⟩ := h.at_ j hj
    exact ⟨ad, e, (World.cell?_setCell_other _ _ _ _ (fun z => by first | (rw [z, hc] at q; cases q) | (rw [← z, hc] at q; cases q))).trans q⟩, h.lo⟩
theorem Lim.put2 {w : World} {A B B' : Option Addr} {n c m k m' k' R : Nat} {xs : List Nat} (h : Lim w A n c xs) (c0 : w.cell? ⟨R, 0, none⟩ = some (.slice B m k)) (c1 : w.cell? ⟨R, 1, none⟩ = some (.slice B' m' k')) (u v : Value) : Lim ((w.setCell ⟨R, 0, none⟩ u).setCell ⟨R, 1, none⟩ v) A n c xs :=
  (h.setSl c0 u).setSl (B := B') (m := m') (k := k') ((World.cell?_setCell_other _ _ _ _ (by simp)).trans c1) v

/-- It is a fraction. -/
def Fr (xs ys : List Nat) : Prop := Nt xs ∧ Nt ys ∧ ys ≠ [] ∧ Nat.gcd (val xs) (val ys) = 1
open Classical in
/-- .. as a bool. -/
@[irreducible] noncomputable def frB (xs ys : List Nat) : Bool := decide (Fr xs ys)
open Classical in
theorem frB_yes {xs ys : List Nat} (h : Fr xs ys) : frB xs ys = true := by unfold frB; exact decide_eq_true h
open Classical in
theorem frB_no {xs ys : List Nat} (h : ¬ Fr xs ys) : frB xs ys = false := by unfold frB; exact decide_eq_false h

set_option maxHeartbeats 1000000 in
set_option maxRecDepth 100000 in
theorem ratRight_none {A A' : Option Addr} {n c c' : Nat} {w : World} : Calls Tryd.prog 41 #[.agg #[.slice A n c, .slice A' 0 c']] w fun e w' => e = .returned (.bool false) ∧ Below w.heap.size w w' := by
  go_enter Tryd.func41, Tryd.ntmps41
  go_wp2_with fail
  go_ret
  exact ⟨rfl, (Below.refl _ _).alloc (Nat.le_refl _) _⟩
set_option maxHeartbeats 1000000 in
set_option maxRecDepth 100000 in
theorem ratRight_bad {A A' : Option Addr} {n c n' c' : Nat} {xs ys : List Nat} {w : World} (ha : Lim w A n c xs) (hb : Lim w A' n' c' ys) (h0 : n' ≠ 0) (h : NoTwo xs ys) : Calls Tryd.prog 41 #[.agg #[.slice A n c, .slice A' n' c']] w fun e w' => e = .returned (.bool false) ∧ Below w.heap.size w w' := by
  have i0 : ((n' : Int) == 0) = false := by simp; omega
  have B0 : Below w.heap.size w (w.alloc (.cells #[.slice A n c, .slice A' n' c'] 30)) := (Below.refl _ _).alloc (Nat.le_refl _) _
  have K := Lib.hid (gcd_none (ha.next B0) (hb.next B0) h)
  clear ha hb h h0
  go_enter Tryd.func41, Tryd.ntmps41
  go_wp2_with fail
  refine K.out.mono ?_
  rintro e w' ⟨rfl, rfl⟩
  go_wp2_with fail
  go_ret
  exact ⟨rfl, B0⟩
theorem sgn_one (g : Nat) : (sgn g 1 == 0) = (g == 1) := by
  by_cases h : g = 1
  · subst h; rw [sgn_eq]; rfl
  · rw [show (g == 1) = false by simpa using h]
    rcases Nat.lt_or_gt_of_ne h with k | k
    · rw [sgn_lt k]; rfl
    · rw [sgn_gt k]; rfl
theorem ln_gcd {a b : Nat} (la : ln a ≤ 64) (lb : ln b ≤ 64) : ln (Nat.gcd a b) ≤ 64 := by
  by_cases z : a = 0
  · subst z; rw [Nat.gcd_zero_left]; exact lb
  · exact Nat.le_trans (ln_mono (Nat.gcd_le_left _ (by omega))) la
set_option maxHeartbeats 1000000 in
set_option maxRecDepth 100000 in
theorem ratRight_nat {A A' : Option Addr} {n c n' c' a b : Nat} {w : World} (ha : Lim w A n c (limbs a)) (hb : Lim w A' n' c' (limbs b)) (h0 : n' ≠ 0) (la : ln a ≤ 64) (lb : ln b ≤ 64) : Calls Tryd.prog 41 #[.agg #[.slice A n c, .slice A' n' c']] w fun e w' => e = .returned (.bool (Nat.gcd a b == 1)) ∧ Below w.heap.size w w' := by
  have i0 : ((n' : Int) == 0) = false := by simp; omega
  have B0 : Below w.heap.size w (w.alloc (.cells #[.slice A n c, .slice A' n' c'] 30)) := (Below.refl _ _).alloc (Nat.le_refl _) _
  have K := Lib.hid (gcd_any (ha.next B0) (hb.next B0) la lb)
  have K1 : Hid (∀ W, Calls Tryd.prog 26 #[.int .u64 1] W fun e w' => RetN 1 W e w') := fun W => of_any 1 (by decide) W
  have lg := ln_gcd la lb
  obtain ⟨g, hg⟩ : ∃ g, Nat.gcd a b = g := ⟨_, rfl⟩
  rw [hg] at K lg ⊢
  have E := Lib.hid (sgn_one g)
  clear ha hb h0 la lb hg
  go_enter Tryd.func41, Tryd.ntmps41
  go_wp2_with fail
  refine K.out.mono ?_
  rintro e w1 ⟨A1, n1, c1, rfl, L1, B1⟩
  have S := (((Sts.start w).next B0).next B1).put L1
  clear L1 B1 B0 K
  go_wp2_with fail
  refine (K1.out _).mono ?_
  rintro e w2 ⟨A2, n2, c2, rfl, L2, B2⟩
  have S := (S.next B2).put L2
  clear L2 B2
  go_wp2_with fail
  refine (cmp_bel S.lie.2.1 S.lie.1 lg (ln_tiny (by decide))).mono ?_
  rintro e w3 ⟨rfl, B3⟩
  have S := S.next B3
  clear B3
  go_wp2_with fail
  go_ret
  refine ⟨?_, S.bl⟩
  rw [← E.out]
  rfl
theorem ratRight_any {A A' : Option Addr} {n c n' c' : Nat} {xs ys : List Nat} {w : World} (ha : Lim w A n c xs) (hb : Lim w A' n' c' ys) : Calls Tryd.prog 41 #[.agg #[.slice A n c, .slice A' n' c']] w fun e w' => e = .returned (.bool (frB xs ys)) ∧ Below w.heap.size w w' := by
  by_cases h0 : n' = 0
  · subst h0
    rw [frB_no (fun h => h.2.2.1 (List.length_eq_zero_iff.1 hb.len))]
    exact ratRight_none
  · by_cases h : Nt xs ∧ Nt ys
    · have e1 := h.1.eq ha.lo
      have e2 := h.2.eq hb.lo
      have l1 : ln (val xs) = n := by rw [← limbs_length, ← e1]; exact ha.len
      have l2 : ln (val ys) = n' := by rw [← limbs_length, ← e2]; exact hb.len
      have m1 := h.1.1; have m2 := h.2.1
      have q1 := ha.len; have q2 := hb.len
      have K := ratRight_nat (e1 ▸ ha) (e2 ▸ hb) h0 (by omega) (by omega)
      have : frB xs ys = (Nat.gcd (val xs) (val ys) == 1) := by
        by_cases k : Nat.gcd (val xs) (val ys) = 1
        · rw [show (Nat.gcd (val xs) (val ys) == 1) = true by simpa using k]; exact frB_yes ⟨h.1, h.2, fun z => by subst z; simp at q2; omega, k⟩
        · rw [show (Nat.gcd (val xs) (val ys) == 1) = false by simpa using k]; exact frB_no fun f => k f.2.2.2
      rw [this]; exact K
    · rw [frB_no fun f => h ⟨f.1, f.2.1⟩]
      exact ratRight_bad ha hb h0 h

/-- A fraction in plain numbers. -/
structure Fq (p q : Nat) : Prop where
  lp : ln p ≤ 64
  lq : ln q ≤ 64
  q0 : q ≠ 0
  co : Nat.gcd p q = 1
theorem Fr.num {xs ys : List Nat} (h : Fr xs ys) (l1 : Lo xs) (l2 : Lo ys) : Fq (val xs) (val ys) ∧ xs = limbs (val xs) ∧ ys = limbs (val ys) := by
  have e1 := h.1.eq l1
  have e2 := h.2.1.eq l2
  have a1 : ln (val xs) = xs.length := by rw [← limbs_length, ← e1]
  have a2 : ln (val ys) = ys.length := by rw [← limbs_length, ← e2]
  have m1 := h.1.1; have m2 := h.2.1.1
  refine ⟨⟨by omega, by omega, fun z => ?_, h.2.2.2⟩, e1, e2⟩
  rw [z, limbs_zero] at e2
  exact h.2.2.1 e2
theorem Fq.fr {p q : Nat} (h : Fq p q) : Fr (limbs p) (limbs q) := ⟨.of h.lp, .of h.lq, fun z => h.q0 (by rw [← val_limbs q, z, val_nil]), by rw [val_limbs, val_limbs]; exact h.co⟩

/-- A pair of naturals and an error's number. -/
abbrev Ans := Nat × Nat × Int
/-- What a call answers that makes a fraction. -/
def RetR (p q : Nat) (w : World) (e : Ending) (w' : World) : Prop := ∃ A n c A' n' c', e = .returned (.agg #[.slice A n c, .slice A' n' c']) ∧ Lim w' A n c (limbs p) ∧ Lim w' A' n' c' (limbs q) ∧ Below w.heap.size w w'
/-- .. and an error. -/
def RetA3 (r : Ans) (w : World) (e : Ending) (w' : World) : Prop := ∃ A n c A' n' c', e = .returned (.tuple #[.agg #[.slice A n c, .slice A' n' c'], .int .i64 r.2.2]) ∧ Lim w' A n c (limbs r.1) ∧ Lim w' A' n' c' (limbs r.2.1) ∧ Below w.heap.size w w'

set_option maxHeartbeats 1000000 in
set_option maxRecDepth 100000 in
theorem reduced_any {A A' : Option Addr} {n c n' c' a b : Nat} {w : World} (ha : Lim w A n c (limbs a)) (hb : Lim w A' n' c' (limbs b)) (la : ln a ≤ 64) (lb : ln b ≤ 64) (b0 : b ≠ 0) : Calls Tryd.prog 46 #[.slice A n c, .slice A' n' c'] w fun e w' => RetR (a / Nat.gcd a b) (b / Nat.gcd a b) w e w' := by
  have lg := ln_gcd la lb
  obtain ⟨g, hg⟩ : ∃ g, Nat.gcd a b = g := ⟨_, rfl⟩
  have g0 : g ≠ 0 := by
    intro z
    rw [z] at hg
    exact b0 (Nat.eq_zero_of_gcd_eq_zero_right hg)
  rw [hg] at lg ⊢
  have HG := Lib.hid hg
  have S := (((Fs.start w).put ha).put hb).box (.slice none 0 0) (.slice none 0 0)
  clear ha hb hg b0
  go_enter Tryd.func46, Tryd.ntmps46
  go_wp2_with fail
  generalize w.alloc (.cells #[.slice none 0 0, .slice none 0 0] 30) = w0 at *
  have K := gcd_any S.lie.2.1 S.lie.1 la lb
  rw [HG.out] at K
  refine K.mono ?_
  clear K
  rintro e w1 ⟨A1, n1, c1, rfl, L1, B1⟩
  have S := (S.next B1).put L1
  clear L1 B1
  go_wp2_with fail
  refine (div_any S.lie.2.2.1 S.lie.1 la lg g0).mono ?_
  rintro e w2 ⟨A2, n2, c2, A3, n3, c3, rfl, L2, L3, B2⟩
  have S := (S.next B2).put L2
  clear L2 L3 B2
  go_wp2_with fail
  refine (div_any S.lie.2.2.1 S.lie.2.1 lb lg g0).mono ?_
  rintro e w4 ⟨A4, n4, c4, A5, n5, c5, rfl, L4, L5, B4⟩
  have S := (S.next B4).put L4
  clear L4 L5 B4
  obtain ⟨⟨c0, c1, m0, m1, sz⟩, _⟩ := S.cel
  go_wp2_with fail
  go_light
  exact bodyPost_ret (v := .agg #[.slice A2 n2 c2, .slice A4 n4 c4]) (by simp [results, Tryd.results46, go_sem, c0, c1]) rfl ⟨_, _, _, _, _, _, rfl, S.lie.2.1.put2 c0 c1 _ _, S.lie.1.put2 c0 c1 _ _, (S.bl.setCell (Nat.le_refl _) _).setCell (Nat.le_refl _) _⟩
end Go.Proofs.YthollkngfibgaaaDoor
namespace Go.Proofs.YthollkngfibgaaaDoor
open Go.RowKit
set_option linter.unusedVariables false
set_option linter.unusedSimpArgs false

/-- Two naturals and an error. -/
def RetP (x y : Nat) (t : Int) (w : World) (e : Ending) (w' : World) : Prop := ∃ A n c A' n' c', e = .returned (.tuple #[.slice A n c, .slice A' n' c', .int .i64 t]) ∧ Lim w' A n c (limbs x) ∧ Lim w' A' n' c' (limbs y) ∧ Below w.heap.size w w'
set_option maxHeartbeats 2000000 in
set_option maxRecDepth 100000 in
theorem products_yes {A A' D D' : Option Addr} {n c n' c' m k m' k' a b u v : Nat} {w : World} (ha : Lim w A n c (limbs a)) (ha' : Lim w A' n' c' (limbs b)) (hb : Lim w D m k (limbs u)) (hb' : Lim w D' m' k' (limbs v)) (la : ln a ≤ 64) (lb : ln b ≤ 64) (lu : ln u ≤ 64) (lv : ln v ≤ 64) (h1 : ln (a * b) ≤ 64) (h2 : ln (u * v) ≤ 64) : Calls Tryd.prog 62 #[.slice A n c, .slice A' n' c', .slice D m k, .slice D' m' k'] w fun e w' => RetP (a * b) (u * v) 0 w e w' := by
  have S := ((((Fs.start w).put ha).put ha').put hb).put hb'
  clear ha ha' hb hb'
  go_enter Tryd.func62, Tryd.ntmps62
  go_wp2_with fail
  have K := mul_any S.lie.2.2.2.1 S.lie.2.2.1 la lb
  rw [fitN_yes h1, fitE_yes h1] at K
  refine K.mono ?_
  clear K
  rintro e w1 ⟨A1, n1, c1, rfl, L1, B1⟩
  have S := (S.next B1).put L1
  clear L1 B1
  go_wp2_with fail
  have K := mul_any S.lie.2.2.1 S.lie.2.1 lu lv
  rw [fitN_yes h2, fitE_yes h2] at K
  refine K.mono ?_
  clear K
  rintro e w2 ⟨A2, n2, c2, rfl, L2, B2⟩
  have S := (S.next B2).put L2
  clear L2 B2
  go_wp2_with fail
  go_ret3
  exact ⟨_, _, _, _, _, _, rfl, S.lie.2.1, S.lie.1, S.bl⟩
set_option maxHeartbeats 2000000 in
set_option maxRecDepth 100000 in
theorem products_big1 {A A' D D' : Option Addr} {n c n' c' m k m' k' a b u v : Nat} {w : World} (ha : Lim w A n c (limbs a)) (ha' : Lim w A' n' c' (limbs b)) (hb : Lim w D m k (limbs u)) (hb' : Lim w D' m' k' (limbs v)) (la : ln a ≤ 64) (lb : ln b ≤ 64) (lu : ln u ≤ 64) (lv : ln v ≤ 64) (h1 : ¬ ln (a * b) ≤ 64) : Calls Tryd.prog 62 #[.slice A n c, .slice A' n' c', .slice D m k, .slice D' m' k'] w fun e w' => RetP 0 0 6 w e w' := by
  have S := ((((Fs.start w).put ha).put ha').put hb).put hb'
  clear ha ha' hb hb'
  go_enter Tryd.func62, Tryd.ntmps62
  go_wp2_with fail
  have K := mul_any S.lie.2.2.2.1 S.lie.2.2.1 la lb
  rw [fitN_no h1, fitE_no h1] at K
  refine K.mono ?_
  clear K
  rintro e w1 ⟨A1, n1, c1, rfl, L1, B1⟩
  have S := (S.next B1).put L1
  clear L1 B1
  go_wp2_with fail
  go_ret3
  exact ⟨_, _, _, _, _, _, rfl, by rw [limbs_zero]; exact Lim.none_ _ _ _ (by decide), by rw [limbs_zero]; exact Lim.none_ _ _ _ (by decide), S.bl⟩
set_option maxHeartbeats 2000000 in
set_option maxRecDepth 100000 in
theorem products_big2 {A A' D D' : Option Addr} {n c n' c' m k m' k' a b u v : Nat} {w : World} (ha : Lim w A n c (limbs a)) (ha' : Lim w A' n' c' (limbs b)) (hb : Lim w D m k (limbs u)) (hb' : Lim w D' m' k' (limbs v)) (la : ln a ≤ 64) (lb : ln b ≤ 64) (lu : ln u ≤ 64) (lv : ln v ≤ 64) (h1 : ln (a * b) ≤ 64) (h2 : ¬ ln (u * v) ≤ 64) : Calls Tryd.prog 62 #[.slice A n c, .slice A' n' c', .slice D m k, .slice D' m' k'] w fun e w' => RetP 0 0 6 w e w' := by
  have S := ((((Fs.start w).put ha).put ha').put hb).put hb'
  clear ha ha' hb hb'
  go_enter Tryd.func62, Tryd.ntmps62
  go_wp2_with fail
  have K := mul_any S.lie.2.2.2.1 S.lie.2.2.1 la lb
  rw [fitN_yes h1, fitE_yes h1] at K
  refine K.mono ?_
  clear K
  rintro e w1 ⟨A1, n1, c1, rfl, L1, B1⟩
  have S := (S.next B1).put L1
  clear L1 B1
  go_wp2_with fail
  have K := mul_any S.lie.2.2.1 S.lie.2.1 lu lv
  rw [fitN_no h2, fitE_no h2] at K
  refine K.mono ?_
  clear K
  rintro e w2 ⟨A2, n2, c2, rfl, L2, B2⟩
  have S := (S.next B2).put L2
  clear L2 B2
  go_wp2_with fail
  go_ret3
  exact ⟨_, _, _, _, _, _, rfl, by rw [limbs_zero]; exact Lim.none_ _ _ _ (by decide), by rw [limbs_zero]; exact Lim.none_ _ _ _ (by decide), S.bl⟩
theorem products_big {A A' D D' : Option Addr} {n c n' c' m k m' k' a b u v : Nat} {w : World} (ha : Lim w A n c (limbs a)) (ha' : Lim w A' n' c' (limbs b)) (hb : Lim w D m k (limbs u)) (hb' : Lim w D' m' k' (limbs v)) (la : ln a ≤ 64) (lb : ln b ≤ 64) (lu : ln u ≤ 64) (lv : ln v ≤ 64) (h : ¬ (ln (a * b) ≤ 64 ∧ ln (u * v) ≤ 64)) : Calls Tryd.prog 62 #[.slice A n c, .slice A' n' c', .slice D m k, .slice D' m' k'] w fun e w' => RetP 0 0 6 w e w' := by
  by_cases h1 : ln (a * b) ≤ 64
  · exact products_big2 ha ha' hb hb' la lb lu lv h1 fun h2 => h ⟨h1, h2⟩
  · exact products_big1 ha ha' hb hb' la lb lu lv h1
set_option maxHeartbeats 2000000 in
set_option maxRecDepth 100000 in
theorem crossed_of {A A' D D' : Option Addr} {n c n' c' m k m' k' : Nat} {p q p' q' : Nat} {x y : Nat} {t : Int} {w : World} (ha : Lim w A n c (limbs p)) (ha' : Lim w A' n' c' (limbs q)) (hb : Lim w D m k (limbs p')) (hb' : Lim w D' m' k' (limbs q')) (K : ∀ W, Lim W A n c (limbs p) → Lim W D' m' k' (limbs q') → Lim W D m k (limbs p') → Lim W A' n' c' (limbs q) → Calls Tryd.prog 62 #[.slice A n c, .slice D' m' k', .slice D m k, .slice A' n' c'] W fun e w' => RetP x y t W e w') : Calls Tryd.prog 42 #[.agg #[.slice A n c, .slice A' n' c'], .agg #[.slice D m k, .slice D' m' k']] w fun e w' => RetP x y t w e w' := by
  have K := Lib.hid K
  have S := (((((Fs.start w).put ha).put ha').put hb).put hb').box (.slice A n c) (.slice A' n' c') |>.box (.slice D m k) (.slice D' m' k')
  simp only [World.size_alloc] at S
  clear ha ha' hb hb'
  go_enter Tryd.func42, Tryd.ntmps42
  go_wp2_with fail
  generalize (w.alloc (.cells #[.slice A n c, .slice A' n' c'] 30)).alloc (.cells #[.slice D m k, .slice D' m' k'] 30) = w0 at *
  refine (K.out _ S.lie.2.2.2.1 S.lie.1 S.lie.2.1 S.lie.2.2.1).mono ?_
  rintro e w1 ⟨A1, n1, c1, A2, n2, c2, rfl, L1, L2, B9⟩
  have S := ((S.next B9).put L1).put L2
  clear B9 L1 L2
  go_wp2_with fail
  go_ret3
  exact ⟨_, _, _, _, _, _, rfl, S.lie.2.1, S.lie.1, S.bl⟩
theorem crossed_yes {A A' D D' : Option Addr} {n c n' c' m k m' k' : Nat} {p q p' q' : Nat} {w : World} (ha : Lim w A n c (limbs p)) (ha' : Lim w A' n' c' (limbs q)) (hb : Lim w D m k (limbs p')) (hb' : Lim w D' m' k' (limbs q')) (f : Fq p q) (g : Fq p' q') (h1 : ln (p * q') ≤ 64) (h2 : ln (p' * q) ≤ 64) : Calls Tryd.prog 42 #[.agg #[.slice A n c, .slice A' n' c'], .agg #[.slice D m k, .slice D' m' k']] w fun e w' => RetP (p * q') (p' * q) 0 w e w' :=
  crossed_of ha ha' hb hb' fun W l1 l2 l3 l4 => products_yes l1 l2 l3 l4 f.lp g.lq g.lp f.lq h1 h2
theorem crossed_big {A A' D D' : Option Addr} {n c n' c' m k m' k' : Nat} {p q p' q' : Nat} {w : World} (ha : Lim w A n c (limbs p)) (ha' : Lim w A' n' c' (limbs q)) (hb : Lim w D m k (limbs p')) (hb' : Lim w D' m' k' (limbs q')) (f : Fq p q) (g : Fq p' q') (h : ¬ (ln (p * q') ≤ 64 ∧ ln (p' * q) ≤ 64)) : Calls Tryd.prog 42 #[.agg #[.slice A n c, .slice A' n' c'], .agg #[.slice D m k, .slice D' m' k']] w fun e w' => RetP 0 0 6 w e w' :=
  crossed_of ha ha' hb hb' fun W l1 l2 l3 l4 => products_big l1 l2 l3 l4 f.lp g.lq g.lp f.lq h
set_option maxHeartbeats 2000000 in
set_option maxRecDepth 100000 in
theorem ratCmp_bad1 {A A' D D' : Option Addr} {n c n' c' m k m' k' : Nat} {xs ys us vs : List Nat} {w : World} (ha : Lim w A n c xs) (ha' : Lim w A' n' c' ys) (hb : Lim w D m k us) (hb' : Lim w D' m' k' vs) (f : ¬ Fr xs ys) : Calls Tryd.prog 23 #[.agg #[.slice A n c, .slice A' n' c'], .agg #[.slice D m k, .slice D' m' k']] w fun e w' => e = .returned (.tuple #[.int .i64 0, .int .i64 1]) ∧ Below w.heap.size w w' := by
  have S := (((((Fs.start w).put ha).put ha').put hb).put hb').box (.slice A n c) (.slice A' n' c') |>.box (.slice D m k) (.slice D' m' k')
  simp only [World.size_alloc] at S
  clear ha ha' hb hb'
  go_enter Tryd.func23, Tryd.ntmps23
  go_wp2_with fail
  generalize (w.alloc (.cells #[.slice A n c, .slice A' n' c'] 30)).alloc (.cells #[.slice D m k, .slice D' m' k'] 30) = w0 at *
  have K := ratRight_any (S.lie.2.2.2.1) (S.lie.2.2.1)
  rw [frB_no f] at K
  refine K.mono ?_
  clear K
  rintro e x1 ⟨rfl, B9⟩
  have S := S.next B9
  clear B9
  go_wp2_with fail
  go_ret2
  exact ⟨rfl, S.bl⟩
set_option maxHeartbeats 2000000 in
set_option maxRecDepth 100000 in
theorem ratCmp_bad2 {A A' D D' : Option Addr} {n c n' c' m k m' k' : Nat} {xs ys us vs : List Nat} {w : World} (ha : Lim w A n c xs) (ha' : Lim w A' n' c' ys) (hb : Lim w D m k us) (hb' : Lim w D' m' k' vs) (f : Fr xs ys) (g : ¬ Fr us vs) : Calls Tryd.prog 23 #[.agg #[.slice A n c, .slice A' n' c'], .agg #[.slice D m k, .slice D' m' k']] w fun e w' => e = .returned (.tuple #[.int .i64 0, .int .i64 1]) ∧ Below w.heap.size w w' := by
  have S := (((((Fs.start w).put ha).put ha').put hb).put hb').box (.slice A n c) (.slice A' n' c') |>.box (.slice D m k) (.slice D' m' k')
  simp only [World.size_alloc] at S
  clear ha ha' hb hb'
  go_enter Tryd.func23, Tryd.ntmps23
  go_wp2_with fail
  generalize (w.alloc (.cells #[.slice A n c, .slice A' n' c'] 30)).alloc (.cells #[.slice D m k, .slice D' m' k'] 30) = w0 at *
  have K := ratRight_any (S.lie.2.2.2.1) (S.lie.2.2.1)
  rw [frB_yes f] at K
  refine K.mono ?_
  clear K
  rintro e x1 ⟨rfl, B9⟩
  have S := S.next B9
  clear B9
  obtain ⟨⟨b0, b1, -⟩, ⟨a0, a1, -⟩, -⟩ := S.cel
  go_wp2_with fail
  clear b0 b1 a0 a1
  have K := ratRight_any (S.lie.2.1) (S.lie.1)
  rw [frB_no g] at K
  refine K.mono ?_
  clear K
  rintro e x2 ⟨rfl, B9⟩
  have S := S.next B9
  clear B9
  go_wp2_with fail
  go_ret2
  exact ⟨rfl, S.bl⟩
theorem ratCmp_bad {A A' D D' : Option Addr} {n c n' c' m k m' k' : Nat} {xs ys us vs : List Nat} {w : World} (ha : Lim w A n c xs) (ha' : Lim w A' n' c' ys) (hb : Lim w D m k us) (hb' : Lim w D' m' k' vs) (f : ¬ (Fr xs ys ∧ Fr us vs)) : Calls Tryd.prog 23 #[.agg #[.slice A n c, .slice A' n' c'], .agg #[.slice D m k, .slice D' m' k']] w fun e w' => e = .returned (.tuple #[.int .i64 0, .int .i64 1]) ∧ Below w.heap.size w w' := by
  by_cases h : Fr xs ys
  · exact ratCmp_bad2 ha ha' hb hb' h fun g => f ⟨h, g⟩
  · exact ratCmp_bad1 ha ha' hb hb' h
set_option maxHeartbeats 2000000 in
set_option maxRecDepth 100000 in
theorem ratCmp_yes {A A' D D' : Option Addr} {n c n' c' m k m' k' : Nat} {p q p' q' : Nat} {w : World} (ha : Lim w A n c (limbs p)) (ha' : Lim w A' n' c' (limbs q)) (hb : Lim w D m k (limbs p')) (hb' : Lim w D' m' k' (limbs q')) (f : Fq p q) (g : Fq p' q') (h1 : ln (p * q') ≤ 64) (h2 : ln (p' * q) ≤ 64) : Calls Tryd.prog 23 #[.agg #[.slice A n c, .slice A' n' c'], .agg #[.slice D m k, .slice D' m' k']] w fun e w' => e = .returned (.tuple #[.int .i64 (sgn (p * q') (p' * q)), .int .i64 0]) ∧ Below w.heap.size w w' := by
  have S := (((((Fs.start w).put ha).put ha').put hb).put hb').box (.slice A n c) (.slice A' n' c') |>.box (.slice D m k) (.slice D' m' k')
  simp only [World.size_alloc] at S
  clear ha ha' hb hb'
  go_enter Tryd.func23, Tryd.ntmps23
  go_wp2_with fail
  generalize (w.alloc (.cells #[.slice A n c, .slice A' n' c'] 30)).alloc (.cells #[.slice D m k, .slice D' m' k'] 30) = w0 at *
  have K := ratRight_any (S.lie.2.2.2.1) (S.lie.2.2.1)
  rw [frB_yes f.fr] at K
  refine K.mono ?_
  clear K
  rintro e x1 ⟨rfl, B9⟩
  have S := S.next B9
  clear B9
  obtain ⟨⟨b0, b1, -⟩, ⟨a0, a1, -⟩, -⟩ := S.cel
  go_wp2_with fail
  clear b0 b1 a0 a1
  have K := ratRight_any (S.lie.2.1) (S.lie.1)
  rw [frB_yes g.fr] at K
  refine K.mono ?_
  clear K
  rintro e x2 ⟨rfl, B9⟩
  have S := S.next B9
  clear B9
  obtain ⟨⟨b0, b1, -⟩, ⟨a0, a1, -⟩, -⟩ := S.cel
  go_wp2_with fail
  clear b0 b1 a0 a1
  refine (crossed_yes S.lie.2.2.2.1 S.lie.2.2.1 S.lie.2.1 S.lie.1 f g h1 h2).mono ?_
  rintro e x3 ⟨A1, n1, c1, A2, n2, c2, rfl, L1, L2, B9⟩
  have S := ((S.next B9).put L1).put L2
  clear B9 L1 L2
  go_wp2_with fail
  refine (cmp_bel S.lie.2.1 S.lie.1 h1 h2).mono ?_
  rintro e x4 ⟨rfl, B9⟩
  have S := S.next B9
  clear B9
  go_wp2_with fail
  go_ret2
  exact ⟨rfl, S.bl⟩
set_option maxHeartbeats 2000000 in
set_option maxRecDepth 100000 in
theorem ratCmp_big {A A' D D' : Option Addr} {n c n' c' m k m' k' : Nat} {p q p' q' : Nat} {w : World} (ha : Lim w A n c (limbs p)) (ha' : Lim w A' n' c' (limbs q)) (hb : Lim w D m k (limbs p')) (hb' : Lim w D' m' k' (limbs q')) (f : Fq p q) (g : Fq p' q') (h : ¬ (ln (p * q') ≤ 64 ∧ ln (p' * q) ≤ 64)) : Calls Tryd.prog 23 #[.agg #[.slice A n c, .slice A' n' c'], .agg #[.slice D m k, .slice D' m' k']] w fun e w' => e = .returned (.tuple #[.int .i64 0, .int .i64 6]) ∧ Below w.heap.size w w' := by
  have S := (((((Fs.start w).put ha).put ha').put hb).put hb').box (.slice A n c) (.slice A' n' c') |>.box (.slice D m k) (.slice D' m' k')
  simp only [World.size_alloc] at S
  clear ha ha' hb hb'
  go_enter Tryd.func23, Tryd.ntmps23
  go_wp2_with fail
  generalize (w.alloc (.cells #[.slice A n c, .slice A' n' c'] 30)).alloc (.cells #[.slice D m k, .slice D' m' k'] 30) = w0 at *
  have K := ratRight_any (S.lie.2.2.2.1) (S.lie.2.2.1)
  rw [frB_yes f.fr] at K
  refine K.mono ?_
  clear K
  rintro e x1 ⟨rfl, B9⟩
  have S := S.next B9
  clear B9
  obtain ⟨⟨b0, b1, -⟩, ⟨a0, a1, -⟩, -⟩ := S.cel
  go_wp2_with fail
  clear b0 b1 a0 a1
  have K := ratRight_any (S.lie.2.1) (S.lie.1)
  rw [frB_yes g.fr] at K
  refine K.mono ?_
  clear K
  rintro e x2 ⟨rfl, B9⟩
  have S := S.next B9
  clear B9
  obtain ⟨⟨b0, b1, -⟩, ⟨a0, a1, -⟩, -⟩ := S.cel
  go_wp2_with fail
  clear b0 b1 a0 a1
  refine (crossed_big S.lie.2.2.2.1 S.lie.2.2.1 S.lie.2.1 S.lie.1 f g h).mono ?_
  rintro e x3 ⟨A1, n1, c1, A2, n2, c2, rfl, L1, L2, B9⟩
  have S := ((S.next B9).put L1).put L2
  clear B9 L1 L2
  go_wp2_with fail
  go_ret2
  exact ⟨rfl, S.bl⟩
/-- The fraction of two numbers, reduced. -/
def red (x y : Nat) : Ans := (x / Nat.gcd x y, y / Nat.gcd x y, 0)
end Go.Proofs.YthollkngfibgaaaDoor
namespace Go.Proofs.YthollkngfibgaaaDoor
open Go.RowKit
set_option linter.unusedVariables false
set_option linter.unusedSimpArgs false

end Go.Proofs.YthollkngfibgaaaDoor
