/- The document's answers for float64: two, cmp; the bits of a float64. The program's approx: shifted, nextDigit. Plain arithmetic: to round to 53 bits, half to even, is to find the nearest float64. Plain arithmetic of the program's own rounding: the leading digits of a fraction, and what is left. The program's approx: leading. -/
import Derived.Test.YtdnikdocfbbkkaaDoorJ09
import Derived.Test.YtdnikdocfbbkkaaDoorJ14
import Derived.Test.YtdnikdocfbbkkaaDoorJ00
import Derived.Test.YtdnikdocfbbkkaaDoorJ05
namespace Go.Proofs.YtdnikdocfbbkkaaDoor
open Go.RowKit
set_option linter.unusedVariables false
set_option linter.unusedSimpArgs false

theorem val_nought (k : Nat) : val (List.replicate k 0) = 0 := by
  induction k with
  | zero => exact val_nil
  | succ k ih => rw [List.replicate_succ, val_cons, ih]; simp
theorem limbs_pw (n : Nat) : limbs (pw n) = List.replicate (n / 32) 0 ++ [2 ^ (n % 32)] := by
  have hx : 2 ^ (n % 32) < 4294967296 := Nat.pow_lt_pow_right (a := 2) (n := 32) (by decide) (Nat.mod_lt _ (by decide))
  have e : val (List.replicate (n / 32) 0 ++ [2 ^ (n % 32)]) = pw n := by
    rw [val_snoc, val_nought, List.length_replicate, Nat.zero_add, pw_eq, show B = 2 ^ 32 by rw [B_eq], ← Nat.pow_mul, ← Nat.pow_add, Nat.div_add_mod]
  rw [← e]
  refine limbs_val ((lo_zeros _).append (.cons hx .nil)) fun hn => ?_
  rw [List.getLast_append_of_ne_nil _ (by simp), List.getLast_singleton]
  exact Nat.ne_of_gt (Nat.two_pow_pos _)
/-- A row of limbs of the call's own that grows. -/
structure Ap (w : World) (xs : List Nat) (k : Nat) (v : Value) (wr : World) : Prop where
  own : wr.ownsRow w.heap.size 37 1 v k (xs.map lv)
  bl : Below w.heap.size w wr
theorem Ap.start (w : World) : Ap w [] 0 (.slice none 0 0) w := ⟨World.ownsRow_nil w _ _ _, Below.refl _ _⟩
theorem Ap.step {w : World} {xs : List Nat} {k : Nat} {v v2 : Value} {wr w2 : World} {o : Obj} {x : Nat} (h : Ap w xs k v wr) (hown : w2.ownsRow w.heap.size 37 1 v2 (k + 1) (xs.map lv ++ [lv x])) (hg : (wr.alloc o).grownBy w2 v.ownBlock) : Ap w (xs ++ [x]) (k + 1) v2 w2 :=
  ⟨by simpa using hown, (h.bl.alloc h.bl.size o).grown hg (by have := h.bl.size; simp; omega) (own_base h.own)⟩
theorem shl_one {k : Nat} (h : k < 32) : IntKind.u32.wrap (2 ^ k : Int) = ((2 ^ k : Nat) : Int) := by
  have hx : 2 ^ k < 4294967296 := Nat.pow_lt_pow_right (a := 2) (n := 32) (by decide) h
  have e : ((2 : Int) ^ k) = ((2 ^ k : Nat) : Int) := by rw [Int.natCast_pow]; rfl
  rw [IntKind.wrap_u32, e]
  clear e
  generalize 2 ^ k = y at hx ⊢
  omega
set_option maxHeartbeats 4000000 in
set_option maxRecDepth 100000 in
/-- samphireref04.two. -/
theorem two_any (n : Nat) (hn : n ≤ 3000) (w : World) : Calls Tryd.prog 106 #[.int .i64 (n : Int)] w fun e w' => RetN (pw n) w e w' := by
  have S0 := Ap.start w
  obtain ⟨i0, hi, hz0, hz1, hz2⟩ := info_parts info_u32
  have HI := Lib.hid hi; have HZ0 := Lib.hid hz0; have HZ1 := Lib.hid hz1; have HZ2 := Lib.hid hz2
  have hd : (n : Int).tdiv 32 = ((n / 32 : Nat) : Int) := (Int.ofNat_tdiv n 32).symm
  have hm : (n : Int).tmod 32 = ((n % 32 : Nat) : Int) := (Int.ofNat_tmod n 32).symm
  have LP := Lib.hid (limbs_pw n)
  have m32 : n % 32 < 32 := Nat.mod_lt _ (by decide)
  have d94 : n / 32 ≤ 94 := by omega
  clear hi hz0 hz1 hz2
  generalize n / 32 = d at *
  generalize n % 32 = r at *
  generalize pw n = P at *
  clear hn
  go_enter Tryd.func106, Tryd.ntmps106
  go_wp2_with fail
  go_loopg [3, 4] d (fun q s3 s4 wr => ∃ (i : Nat) (zs : List Nat), i + q = d ∧ s4 = .int .i64 (i : Int) ∧ Hid (zs = List.replicate i 0) ∧ Ap w zs i s3 wr)
  case atStart => exact ⟨0, [], by omega, rfl, rfl, S0⟩
  case round =>
    clear S0
    obtain ⟨i, zs, hq, rfl, ZS, S⟩ := hrel
    have HQ := Lib.hid hq
    by_cases lt : i < d
    · have il : (i : Int) < d := by omega
      have hb2 : w.heap.size ≤ wr.heap.size := S.bl.size
      have KS : Hid (∀ (v2 : Value) (w2 : World) (o : Obj), w2.ownsRow w.heap.size 37 1 v2 (i + 1) (zs.map lv ++ [lv 0]) → (wr.alloc o).grownBy w2 (Value.ownBlock u3) → Ap w (zs ++ [0]) (i + 1) v2 w2) := fun v2 w2 o h1 h2 => S.step h1 h2
      have PO := Lib.hid S.own
      have E3 : Hid (lv 0 = Value.int IntKind.u32 0) := rfl
      clear hq S
      go_wp2_with (at_builtin; refine wpList_append_own _ rfl _ _ 23 rfl w.heap.size 37 i0 (.int .u32 0) 1 4 Tryd.underlying23 HI.out HZ0.out HZ1.out HZ2.out rfl (by decide) _ i (zs.map lv) rfl (PO.out.alloc _) ⟨wr.heap.size, 0, none⟩ 1 1 [lv 0] rfl rfl ?qc2 ?qc3 ?qc4 ?qc5 ?qc6 ?_)
      case qc2 => (rw [E3.out]; first | exact cell_one_new wr _ _ | exact fun _ _ h => h)
      case qc3 => first | (intro u hu; rw [List.mem_singleton] at hu; rw [hu]; rfl) | rfl
      case qc4 => unfold maxLen; omega
      case qc5 => omega
      case qc6 => first | omega | (simp; omega)
      intro v2 w2 hown hg _
      have STh := Lib.hid (KS.out v2 w2 _ hown hg)
      clear hown hg
      go_wp2_with fail
      go_roundg (gk - 1)
      case measure => have := HQ.out; omega
      case rel =>
        go_light
        exact ⟨i + 1, _, by have := HQ.out; omega, by go_num, by unfold Hid; rw [ZS.out, List.replicate_succ'], STh.out⟩
    · obtain rfl : i = d := by omega
      have il : ¬ (i : Int) < i := by omega
      have hb2 : w.heap.size ≤ wr.heap.size := S.bl.size
      obtain ⟨X, HX⟩ : ∃ X, Hid (2 ^ r = X) := ⟨2 ^ r, Lib.hid rfl⟩
      have KS : Hid (∀ (v2 : Value) (w2 : World) (o : Obj), w2.ownsRow w.heap.size 37 1 v2 (i + 1) (zs.map lv ++ [lv X]) → (wr.alloc o).grownBy w2 (Value.ownBlock u3) → ∃ A c, v2 = .slice A (i + 1) c ∧ Lim w2 A (i + 1) c (limbs P) ∧ Below w.heap.size w w2) := by
        intro v2 w2 o h1 h2
        have T := S.step h1 h2
        have hx : X < 4294967296 := by rw [← HX.out]; exact Nat.pow_lt_pow_right (a := 2) (n := 32) (by decide) m32
        obtain ⟨A, c, e, l⟩ := own_lim T.own ((show Lo zs by rw [ZS.out]; exact lo_zeros _).append (.cons hx .nil))
        refine ⟨A, c, e, ?_, T.bl⟩
        rw [LP.out, HX.out, ← ZS.out]; exact l
      have PO := Lib.hid S.own
      have hw1 : IntKind.u32.wrap (2 ^ r : Int) = (X : Int) := by rw [← HX.out]; exact shl_one m32
      have r0 : (0 : Int) ≤ r := by omega
      have r1 : (r : Int) < 32 := by omega
      clear hq S lt m32
      go_wp2_with (at_builtin; refine wpList_append_own _ rfl _ _ 23 rfl w.heap.size 37 i0 (.int .u32 0) 1 4 Tryd.underlying23 HI.out HZ0.out HZ1.out HZ2.out rfl (by decide) _ i (zs.map lv) rfl (PO.out.alloc _) ⟨wr.heap.size, 0, none⟩ 1 1 [lv X] rfl rfl ?qc2 ?qc3 ?qc4 ?qc5 ?qc6 ?_)
      case qc3 => first | (intro u hu; rw [List.mem_singleton] at hu; rw [hu]; rfl) | rfl
      case qc4 => unfold maxLen; omega
      case qc5 => omega
      case qc6 => first | omega | (simp; omega)
      intro v2 w2 hown hg _
      obtain ⟨A2, c2, rfl, L2, B2⟩ := KS.out v2 w2 _ hown hg
      clear hown hg
      go_wp2_with fail
      go_ret
      exact ⟨_, _, _, rfl, L2, B2⟩
end Go.Proofs.YtdnikdocfbbkkaaDoor
namespace Go.Proofs.YtdnikdocfbbkkaaDoor
open Go.RowKit
set_option linter.unusedVariables false
set_option linter.unusedSimpArgs false

theorem set_last (d x : Nat) : (List.replicate (d + 1) 0).set d x = List.replicate d 0 ++ [x] := by
  rw [List.replicate_succ', List.set_append_right _ _ (by simp), List.length_replicate, Nat.sub_self, List.set_cons_zero]
/-- A power of 2, as it is written. -/
theorem row_pw {w : World} {n d r : Nat} (hn : n < 2048) (hd : n / 32 = d) (hr : n % 32 = r) : Lim ((w.alloc (zrow (d + 1))).setCell ⟨w.heap.size, d, none⟩ (lv (2 ^ r))) (some ⟨w.heap.size, 0, none⟩) (d + 1) (d + 1) (limbs (pw n)) ∧ Turn (w.alloc (zrow (d + 1))) ((w.alloc (zrow (d + 1))).setCell ⟨w.heap.size, d, none⟩ (lv (2 ^ r))) w.heap.size := by
  have hx : 2 ^ r < 4294967296 := Nat.pow_lt_pow_right (a := 2) (n := 32) (by decide) (by omega)
  have R := (Row.zeros w (d + 1)).set_ d (2 ^ r) hx
  rw [set_last] at R
  refine ⟨?_, (Turn.refl _ _).setCell _ _⟩
  rw [limbs_pw, hd, hr]
  have := R.lim (o := 0) (n := d + 1) (c := d + 1) (by simp) (Nat.le_refl _) (by omega)
  rwa [List.drop_zero, List.take_of_length_le (by simp)] at this
set_option maxHeartbeats 4000000 in
set_option maxRecDepth 100000 in
/-- approx.shifted. -/
theorem ashift_any {A : Option Addr} {m c a n : Nat} {w : World} (ha : Lim w A m c (limbs a)) (la : ln a ≤ 64) (hn : n < 2048) (lm : ln (a * pw n) ≤ 64) : Calls Tryd.prog 105 #[.slice A m c, .int .i64 (n : Int)] w fun e w' => RetN (a * pw n) w e w' := by
  have hd : (n : Int).tdiv 32 = ((n / 32 : Nat) : Int) := (Int.ofNat_tdiv n 32).symm
  have hm : (n : Int).tmod 32 = ((n % 32 : Nat) : Int) := (Int.ofNat_tmod n 32).symm
  have m32 : n % 32 < 32 := Nat.mod_lt _ (by decide)
  have d63 : n / 32 ≤ 63 := by omega
  have lp : Hid (ln (pw n) ≤ 64) := ln_pw (by omega)
  obtain ⟨L2, T2⟩ := row_pw (w := w) (n := n) hn rfl rfl
  have L1 := turn_lim T2 (ha.alloc (zrow (n / 32 + 1))) ha.new_ne
  have B2 : Below w.heap.size w _ := ((Below.refl _ _).alloc (Nat.le_refl _) (zrow (n / 32 + 1))).trans (T2.below (Nat.le_refl _))
  have hmk : ∀ W : World, (Instr.makeSlice 23 (.int .i64 (((n / 32 : Nat) : Int) + 1)) (.int .i64 (((n / 32 : Nat) : Int) + 1))).run Tryd.prog W = .ok (.slice (some ⟨W.heap.size, 0, none⟩) (n / 32 + 1) (n / 32 + 1)) (W.alloc (zrow (n / 32 + 1))) := make_u32 (n / 32 + 1) (by omega)
  have R0 := Row.zeros w (n / 32 + 1)
  have c1 := R0.cell' (i := n / 32) (x := 0) (by rw [List.getElem?_replicate, if_pos (by omega)])
  have f1 := R0.melt (n / 32)
  clear R0 T2 ha
  have hX : Hid ((2 : Nat) ^ (n % 32) = 2 ^ (n % 32)) := rfl
  have hw1 : IntKind.u32.wrap (2 ^ (n % 32) : Int) = ((2 ^ (n % 32) : Nat) : Int) := shl_one m32
  have r0 : (0 : Int) ≤ ((n % 32 : Nat) : Int) := by omega
  have r1 : ((n % 32 : Nat) : Int) < 32 := by omega
  have d0 : (0 : Int) ≤ ((n / 32 : Nat) : Int) := by omega
  have d1 : ((n / 32 : Nat) : Int) < ((n / 32 : Nat) : Int) + 1 := by omega
  generalize n / 32 = d at *
  generalize n % 32 = r at *
  obtain ⟨X, HX⟩ : ∃ X, (2 : Nat) ^ r = X := ⟨_, rfl⟩
  rw [HX] at hw1 L1 L2 B2
  clear hX HX
  have L1 := Lib.hid L1; have L2 := Lib.hid L2; have B2 := Lib.hid B2
  have LA := Lib.hid la; have LM := Lib.hid lm
  clear la lm
  generalize hP : pw n = P at *
  clear hP hn
  go_enter Tryd.func105, Tryd.ntmps105
  go_wp2_with fail
  have K := mul_any L1.out L2.out LA.out lp.out
  rw [fitN_yes LM.out, fitE_yes LM.out] at K
  refine K.mono ?_
  clear K
  rintro e z1 ⟨A1, n1, c1, rfl, M1, B1⟩
  go_wp2_with fail
  go_ret
  exact ⟨_, _, _, rfl, M1, below_step B2.out B1⟩
set_option maxHeartbeats 4000000 in
set_option maxRecDepth 100000 in
/-- approx.nextDigit. -/
theorem digit_any {A A' : Option Addr} {m c m' c' r q : Nat} {w : World} (hr : Lim w A m c (limbs r)) (hq : Lim w A' m' c' (limbs q)) (lq : ln q ≤ 64) (lt : r < q) : Calls Tryd.prog 127 #[.slice A m c, .slice A' m' c'] w fun e w' => ∃ D n k, e = .returned (.tuple #[.int .u64 ((2 * r / q : Nat) : Int), .slice D n k]) ∧ Lim w' D n k (limbs (2 * r % q)) ∧ Below w.heap.size w w' := by
  have lr : ln r ≤ 64 := Nat.le_trans (ln_mono (Nat.le_of_lt lt)) lq
  have ll : ln (q - r) ≤ 64 := Nat.le_trans (ln_mono (Nat.sub_le _ _)) lq
  have K1 := Lib.hid (sub_any hq hr lq lr (Nat.le_of_lt lt))
  have LR := Lib.hid lr; have LL := Lib.hid ll
  by_cases h : r < q - r
  · have e1 : 2 * r / q = 0 := Nat.div_eq_of_lt (by omega)
    have e2 : 2 * r % q = r + r := by rw [Nat.mod_eq_of_lt (by omega)]; omega
    rw [e1, e2]
    have LS : Hid (ln (r + r) ≤ 64) := Nat.le_trans (ln_mono (by omega)) lq
    have hs : sgn r (q - r) < 0 := by rw [sgn_lt h]; decide
    have S := (Fs.start w).put hr
    have HS := Lib.hid hs
    clear lr ll h e1 e2 hq hr lq lt hs
    go_enter Tryd.func127, Tryd.ntmps127
    go_wp2_with fail
    refine K1.out.mono ?_
    rintro e z1 ⟨A1, n1, c1, rfl, M1, B1⟩
    have S := (S.next B1).put M1
    clear M1 B1 K1
    go_wp2_with fail
    refine (cmp_bel S.lie.2.1 S.lie.1 LR.out LL.out).mono ?_
    rintro e z2 ⟨rfl, B1⟩
    have S := S.next B1
    have hs := HS.out
    clear B1 HS
    go_wp2_with fail
    have K := add_any S.lie.2.1 S.lie.2.1 LR.out LR.out
    rw [fitN_yes LS.out, fitE_yes LS.out] at K
    refine K.mono ?_
    clear K
    rintro e z3 ⟨A3, n3, c3, rfl, M3, B1⟩
    have S := S.next B1
    go_wp2_with fail
    go_ret2
    exact ⟨_, _, _, rfl, M3, S.bl⟩
  · have e1 : 2 * r / q = 1 := by rw [Nat.div_eq_iff (by omega)]; omega
    have e2 : 2 * r % q = r - (q - r) := by rw [Nat.mod_eq_sub_mod (by omega), Nat.mod_eq_of_lt (by omega)]; omega
    rw [e1, e2]
    have hs : ¬ sgn r (q - r) < 0 := by
      rcases Nat.lt_or_eq_of_le (Nat.le_of_not_lt h) with k | k
      · rw [sgn_gt k]; decide
      · rw [k, sgn_eq]; decide
    have S := (Fs.start w).put hr
    have HS := Lib.hid hs
    have HL : Hid (q - r ≤ r) := Nat.le_of_not_lt h
    clear lr ll h e1 e2 hq hr lq lt hs
    go_enter Tryd.func127, Tryd.ntmps127
    go_wp2_with fail
    refine K1.out.mono ?_
    rintro e z1 ⟨A1, n1, c1, rfl, M1, B1⟩
    have S := (S.next B1).put M1
    clear M1 B1 K1
    go_wp2_with fail
    refine (cmp_bel S.lie.2.1 S.lie.1 LR.out LL.out).mono ?_
    rintro e z2 ⟨rfl, B1⟩
    have S := S.next B1
    have hs := HS.out
    clear B1 HS
    go_wp2_with fail
    refine (sub_any S.lie.2.1 S.lie.1 LR.out LL.out HL.out).mono ?_
    rintro e z3 ⟨A3, n3, c3, rfl, M3, B1⟩
    have S := S.next B1
    go_wp2_with fail
    go_ret2
    exact ⟨_, _, _, rfl, M3, S.bl⟩
end Go.Proofs.YtdnikdocfbbkkaaDoor
namespace Go.Proofs.YtdnikdocfbbkkaaDoor
set_option linter.unusedVariables false

theorem fv_at {d k : Nat} (h : d = 0 ∨ 4503599627370496 ≤ k) (h2 : k ≤ 9007199254740992) : fv (d * 4503599627370496 + k) = k * pw d := by
  by_cases z : k < 4503599627370496
  · obtain rfl : d = 0 := by omega
    rw [fv_low (by omega), pw_zero]; omega
  · by_cases t : k = 9007199254740992
    · subst t
      have e1 : (d * 4503599627370496 + 9007199254740992) / 4503599627370496 = d + 2 := by omega
      have e2 : (d * 4503599627370496 + 9007199254740992) % 4503599627370496 = 0 := by omega
      rw [fv_high (by omega), e1, e2, show d + 2 - 1 = d + 1 by omega, pw_succ]
      generalize pw d = t; omega
    · have e1 : (d * 4503599627370496 + k) / 4503599627370496 = d + 1 := by omega
      have e2 : (d * 4503599627370496 + k) % 4503599627370496 = k - 4503599627370496 := by omega
      rw [fv_high (by omega), e1, e2, Nat.add_sub_cancel, show k - 4503599627370496 + 4503599627370496 = k by omega]
theorem ulp_ge {d k : Nat} (h : d = 0 ∨ 4503599627370496 ≤ k) : pw d ≤ ulp (d * 4503599627370496 + k) := by
  unfold ulp
  obtain ⟨j, hj⟩ : ∃ j, (d * 4503599627370496 + k) / 4503599627370496 - 1 = d + j := ⟨(d * 4503599627370496 + k) / 4503599627370496 - 1 - d, by omega⟩
  rw [hj, pw_add]
  exact Nat.le_mul_of_pos_right _ (pw_pos j)
/-- Rounded to a whole number of units, it is the nearest. -/
theorem round_flT {p q n T d k : Nat} (q0 : q ≠ 0) (T0 : 0 < T) (E : p * pw 1074 * T = q * (n * pw d)) (up : 2 * n < (2 * k + 1) * T ∨ (2 * n = (2 * k + 1) * T ∧ k % 2 = 0)) (dn : k ≠ 0 → (2 * k - 1) * T < 2 * n ∨ ((2 * k - 1) * T = 2 * n ∧ k % 2 = 0))
    (norm : d = 0 ∨ 4503599627370496 * T ≤ n) (lt : n < 9007199254740992 * T) : Fl p q (min (d * 4503599627370496 + k) 9218868437227405312) := by
  have U0 := pw_pos d
  have Q0 := Nat.pos_of_ne_zero q0
  have k2 : k ≤ 9007199254740992 := Nat.le_of_not_lt fun z => by
    have h1 : (2 * 9007199254740992 + 1) * T ≤ (2 * k - 1) * T := Nat.mul_le_mul_right _ (by omega)
    have := dn (by omega)
    omega
  have k1 : d = 0 ∨ 4503599627370496 ≤ k := by
    rcases norm with h | h
    · exact Or.inl h
    · refine Or.inr (Nat.le_of_not_lt fun z => ?_)
      have h1 : (2 * k + 1) * T ≤ (2 * 4503599627370496 - 1) * T := Nat.mul_le_mul_right _ (by omega)
      omega
  have ev : (d * 4503599627370496 + k) % 2 = k % 2 := by omega
  -- twice the fraction, in units, times what both share
  have E2 : p * (2 * pw 1074) * T = q * pw d * (2 * n) := by
    have : p * (2 * pw 1074) * T = 2 * (p * pw 1074 * T) := by generalize pw 1074 = a; grind
    rw [this, E]; grind
  have hup : Bel p q (d * 4503599627370496 + k) := by
    have hf := fv_at k1 k2
    have hu := ulp_ge k1
    have hs := fv_succ (d * 4503599627370496 + k)
    have h3 : (2 * k + 1) * pw d ≤ fv (d * 4503599627370496 + k) + fv (d * 4503599627370496 + k + 1) := by
      rw [hs, hf]
      have : (2 * k + 1) * pw d = k * pw d + (k * pw d + pw d) := by generalize pw d = a; grind
      omega
    have h4 : q * pw d * ((2 * k + 1) * T) ≤ q * (fv (d * 4503599627370496 + k) + fv (d * 4503599627370496 + k + 1)) * T := by
      have : q * pw d * ((2 * k + 1) * T) = q * ((2 * k + 1) * pw d) * T := by generalize pw d = a; grind
      rw [this]
      exact Nat.mul_le_mul_right _ (Nat.mul_le_mul_left _ h3)
    rcases up with h | ⟨h, e⟩
    · refine Or.inl (Nat.lt_of_mul_lt_mul_right (a := T) ?_)
      rw [E2]
      exact Nat.lt_of_lt_of_le (Nat.mul_lt_mul_of_pos_left h (Nat.mul_pos Q0 U0)) h4
    · have h5 : p * (2 * pw 1074) ≤ q * (fv (d * 4503599627370496 + k) + fv (d * 4503599627370496 + k + 1)) := Nat.le_of_mul_le_mul_right (by rw [E2, h]; exact h4) T0
      rcases Nat.lt_or_eq_of_le h5 with h6 | h6
      · exact Or.inl h6
      · exact Or.inr ⟨h6, by rw [ev]; exact e⟩
  have hdn : d * 4503599627370496 + k ≠ 0 → ¬ Bel p q (d * 4503599627370496 + k - 1) := by
    intro nz
    obtain ⟨r, hr⟩ : ∃ r, d * 4503599627370496 + k = r + 1 := ⟨d * 4503599627370496 + k - 1, by omega⟩
    have hf : fv (r + 1) = k * pw d := by rw [← hr]; exact fv_at k1 k2
    have hs := fv_succ r
    rw [hr, Nat.add_sub_cancel]
    have k0 : k ≠ 0 := by omega
    have D := dn k0
    -- the last step below
    have key : (2 * k - 1) * pw d = fv r + fv (r + 1) ∨ (fv r + fv (r + 1) < 2 * k * pw d ∧ k * T ≤ n) := by
      by_cases c : d = 0 ∨ 4503599627370496 < k
      · left
        have e : fv r = (k - 1) * pw d := by
          have := fv_at (d := d) (k := k - 1) (by omega) (by omega)
          rw [show d * 4503599627370496 + (k - 1) = r by omega] at this
          exact this
        rw [e, hf, ← Nat.add_mul]; congr 1; omega
      · right
        obtain rfl : k = 4503599627370496 := by omega
        refine ⟨?_, by rcases norm with h | h <;> omega⟩
        have := ulp_pos r
        rw [hf]
        have : 2 * 4503599627370496 * pw d = 4503599627370496 * pw d + 4503599627370496 * pw d := by omega
        omega
    rintro (h | ⟨h, e⟩)
    · have h1 := Nat.mul_lt_mul_of_pos_right h T0
      rw [E2] at h1
      rcases key with c | ⟨c, c2⟩
      · rw [← c, show q * ((2 * k - 1) * pw d) * T = q * pw d * ((2 * k - 1) * T) by generalize 2 * k - 1 = a; grind] at h1
        have := Nat.lt_of_mul_lt_mul_left h1
        omega
      · have h2 : q * (fv r + fv (r + 1)) * T ≤ q * (2 * k * pw d) * T := Nat.mul_le_mul_right _ (Nat.mul_le_mul_left _ (Nat.le_of_lt c))
        rw [show q * (2 * k * pw d) * T = q * pw d * (2 * (k * T)) by grind] at h2
        have := Nat.lt_of_mul_lt_mul_left (Nat.lt_of_lt_of_le h1 h2)
        omega
    · have h1 : p * (2 * pw 1074) * T = q * (fv r + fv (r + 1)) * T := by rw [h]
      rw [E2] at h1
      rcases key with c | ⟨c, c2⟩
      · rw [← c, show q * ((2 * k - 1) * pw d) * T = q * pw d * ((2 * k - 1) * T) by generalize 2 * k - 1 = a; grind] at h1
        have := Nat.eq_of_mul_eq_mul_left (Nat.mul_pos Q0 U0) h1
        omega
      · have h2 : q * (fv r + fv (r + 1)) * T < q * (2 * k * pw d) * T := Nat.mul_lt_mul_of_pos_right (Nat.mul_lt_mul_of_pos_left c Q0) T0
        rw [show q * (2 * k * pw d) * T = q * pw d * (2 * (k * T)) by grind, ← h1] at h2
        have := Nat.lt_of_mul_lt_mul_left h2
        omega
  by_cases ov : d * 4503599627370496 + k ≤ 9218868437227405312
  · rw [Nat.min_eq_left ov]
    exact Fl.mk' q0 ov (fun _ => hup) hdn
  · rw [Nat.min_eq_right (by omega)]
    exact ⟨Nat.le_refl _, fun h => absurd h (Nat.lt_irrefl _), fun c hc h => hdn (by omega) (h.up q0 (by omega))⟩
theorem round_fl {p q n t d k : Nat} (q0 : q ≠ 0) (E : p * pw 1074 * pw t = q * (n * pw d)) (up : 2 * n < (2 * k + 1) * pw t ∨ (2 * n = (2 * k + 1) * pw t ∧ k % 2 = 0)) (dn : k ≠ 0 → (2 * k - 1) * pw t < 2 * n ∨ ((2 * k - 1) * pw t = 2 * n ∧ k % 2 = 0))
    (norm : d = 0 ∨ 4503599627370496 * pw t ≤ n) (lt : n < 9007199254740992 * pw t) : Fl p q (min (d * 4503599627370496 + k) 9218868437227405312) := round_flT q0 (pw_pos t) E up dn norm lt
end Go.Proofs.YtdnikdocfbbkkaaDoor
namespace Go.Proofs.YtdnikdocfbbkkaaDoor
set_option linter.unusedVariables false

theorem pw_shift {X Y a b m n : Nat} (h : X * pw a = Y * pw b) (e : m + b = n + a) : X * pw m = Y * pw n := by
  have h1 : X * pw m * pw b = Y * pw n * pw b := by
    have : X * pw m * pw b = X * pw a * pw n := by rw [Nat.mul_assoc, ← pw_add, e, pw_add, Nat.mul_assoc, Nat.mul_comm (pw n)]
    rw [this, h, Nat.mul_assoc, Nat.mul_assoc, Nat.mul_comm (pw n)]
  exact Nat.eq_of_mul_eq_mul_right (pw_pos b) h1
theorem ln_pwlt {n m k : Nat} (h : n < pw m) (hm : m ≤ 32 * k) : ln n ≤ k := by
  refine ln_le (Nat.lt_of_lt_of_le h ?_)
  rw [pw_eq, show B = 2 ^ 32 by rw [B_eq], ← Nat.pow_mul]
  exact Nat.pow_le_pow_right (by decide) hm
/-- As many bits: neither goes twice in the other. -/
theorem lead_bits {p q : Nat} (p0 : p ≠ 0) (q0 : q ≠ 0) (lp : ln p ≤ 64) (lq : ln q ≤ 64) : ∃ P Q, P = p * pw (bl q - bl p) ∧ Q = q * pw (bl p - bl q) ∧ P < 2 * Q ∧ Q < 2 * P ∧ ln P ≤ 64 ∧ ln Q ≤ 64 ∧ 0 < Q ∧ bl p ≤ 2048 ∧ bl q ≤ 2048 ∧ 1 ≤ bl p ∧ 1 ≤ bl q := by
  have a1 := lt_bl p; have a2 := le_bl p0; have b1 := lt_bl q; have b2 := le_bl q0
  have u0 : bl p ≠ 0 := fun h => p0 (bl_eq_zero h)
  have v0 : bl q ≠ 0 := fun h => q0 (bl_eq_zero h)
  have lu := bl_ln lp; have lv := bl_ln lq
  obtain ⟨U, hU⟩ : ∃ U, bl p = U + 1 := ⟨bl p - 1, by omega⟩
  obtain ⟨V, hV⟩ : ∃ V, bl q = V + 1 := ⟨bl q - 1, by omega⟩
  rw [hU] at a1 a2 lu; rw [hV] at b1 b2 lv
  rw [hU, hV]
  rw [← pw_eq] at a1 a2 b1 b2
  rw [Nat.add_sub_cancel] at a2 b2
  rw [pw_succ] at a1 b1
  have key : ∀ K, U ≤ K → V ≤ K → K ≤ 2047 → K - U = V + 1 - (U + 1) → K - V = U + 1 - (V + 1) → ∃ P Q, P = p * pw (V + 1 - (U + 1)) ∧ Q = q * pw (U + 1 - (V + 1)) ∧ P < 2 * Q ∧ Q < 2 * P ∧ ln P ≤ 64 ∧ ln Q ≤ 64 ∧ 0 < Q := by
    intro K h1 h2 h3 h4 h5
    rw [← h4, ← h5]
    have e1 : pw U * pw (K - U) = pw K := by rw [← pw_add]; congr 1; omega
    have e2 : pw V * pw (K - V) = pw K := by rw [← pw_add]; congr 1; omega
    have c1 := pw_pos (K - U); have c2 := pw_pos (K - V); have c3 := pw_pos K
    have d1 : pw K ≤ p * pw (K - U) := by rw [← e1]; exact Nat.mul_le_mul_right _ a2
    have d2 : pw K ≤ q * pw (K - V) := by rw [← e2]; exact Nat.mul_le_mul_right _ b2
    have d3 : p * pw (K - U) < pw K * 2 := by rw [← e1, Nat.mul_right_comm]; exact Nat.mul_lt_mul_of_pos_right a1 c1
    have d4 : q * pw (K - V) < pw K * 2 := by rw [← e2, Nat.mul_right_comm]; exact Nat.mul_lt_mul_of_pos_right b1 c2
    have l : ∀ n, n < pw K * 2 → ln n ≤ 64 := by
      intro n hn
      rw [← pw_succ] at hn
      exact ln_pwlt hn (by omega)
    exact ⟨_, _, rfl, rfl, by omega, by omega, l _ d3, l _ d4, by omega⟩
  rcases Nat.le_total U V with h | h
  · obtain ⟨P, Q, k1, k2, k3, k4, k5, k6, k7⟩ := key V h (Nat.le_refl _) (by omega) (by omega) (by omega)
    exact ⟨P, Q, k1, k2, k3, k4, k5, k6, k7, by omega, by omega, by omega, by omega⟩
  · obtain ⟨P, Q, k1, k2, k3, k4, k5, k6, k7⟩ := key U (Nat.le_refl _) h (by omega) (by omega) (by omega)
    exact ⟨P, Q, k1, k2, k3, k4, k5, k6, k7, by omega, by omega, by omega, by omega⟩
/-- What the digits' loop keeps. -/
structure Lg (P Q i d r : Nat) : Prop where
  eq : P * pw i = d * Q + r
  lt : r < Q
  hi : d < 18014398509481984
  lo : pw i < 2 * (d + 1)
theorem Lg.start {P Q : Nat} (h1 : P < 2 * Q) (h2 : Q < 2 * P) : Lg P Q 0 (P / Q) (P % Q) := by
  have q0 : 0 < Q := by omega
  have e := Nat.div_add_mod P Q
  have l : P / Q < 2 := Nat.div_lt_of_lt_mul (by omega)
  refine ⟨by rw [pw_zero, Nat.mul_one, Nat.mul_comm (P / Q)]; exact e.symm, Nat.mod_lt _ q0, Nat.lt_of_lt_of_le l (by decide), by rw [pw_zero]; generalize P / Q = z; omega⟩
theorem Lg.step {P Q i d r : Nat} (h : Lg P Q i d r) (h2 : Q < 2 * P) (c : d < 9007199254740992) : Lg P Q (i + 1) (2 * d + 2 * r / Q) (2 * r % Q) := by
  have lt := h.lt
  have q0 : 0 < Q := by omega
  have e := Nat.div_add_mod (2 * r) Q
  have l : 2 * r / Q < 2 := Nat.div_lt_of_lt_mul (by omega)
  have eq : P * pw (i + 1) = (2 * d + 2 * r / Q) * Q + 2 * r % Q := by
    rw [pw_succ, ← Nat.mul_assoc, h.eq, Nat.add_mul, Nat.add_mul, Nat.add_assoc, Nat.mul_comm (2 * r / Q), e]
    rw [show 2 * d * Q = 2 * (d * Q) by rw [Nat.mul_assoc]]
    generalize d * Q = z
    omega
  have m := Nat.mod_lt (2 * r) q0
  refine ⟨eq, m, by omega, ?_⟩
  -- Q * pw (i+1) < 2 * P * pw (i+1) < 2 * (d' + 1) * Q
  refine Nat.lt_of_mul_lt_mul_right (a := Q) ?_
  have t0 := pw_pos (i + 1)
  have k1 : pw (i + 1) * Q < pw (i + 1) * (2 * P) := Nat.mul_lt_mul_of_pos_left h2 t0
  have k2 : pw (i + 1) * (2 * P) = 2 * ((2 * d + 2 * r / Q) * Q + 2 * r % Q) := by rw [← eq]; grind
  have k3 : 2 * ((2 * d + 2 * r / Q) * Q + 2 * r % Q) < 2 * (2 * d + 2 * r / Q + 1) * Q := by
    generalize 2 * d + 2 * r / Q = y at *
    generalize 2 * r % Q = z at *
    rw [Nat.mul_assoc, Nat.add_mul, Nat.one_mul]
    omega
  omega
theorem Lg.few {P Q i d r : Nat} (h : Lg P Q i d r) (c : d < 9007199254740992) : i < 54 := by
  have := h.lo
  refine Nat.lt_of_not_le fun z => ?_
  have k : pw 54 ≤ pw i := by rw [pw_eq, pw_eq]; exact Nat.pow_le_pow_right (by decide) z
  rw [show pw 54 = 18014398509481984 by rw [pw_eq]] at k
  omega
/-- What leading tells: the digits D, times 2 to the x. -/
structure Led (p q D : Nat) (x : Int) : Prop where
  ex : ∃ (M Q d r a b : Nat), 0 < Q ∧ M = d * Q + r ∧ r < Q ∧ D = 2 * d + (if r = 0 then 0 else 1) ∧ 9007199254740992 ≤ d ∧ d < 18014398509481984 ∧ (b : Int) - a = x + 1 ∧ p * Q * pw a = q * M * pw b
  xl : -2103 ≤ x
  xh : x ≤ 2047
theorem Lg.done {p q P Q i d r : Nat} (h : Lg P Q i d r) (hP : P = p * pw (bl q - bl p)) (hQ : Q = q * pw (bl p - bl q)) (Q0 : 0 < Q) (c : ¬ d < 9007199254740992) (hi : i ≤ 54) (u1 : bl p ≤ 2048) (v1 : bl q ≤ 2048) (u2 : 1 ≤ bl p) (v2 : 1 ≤ bl q) : Led p q (2 * d + (if r = 0 then 0 else 1)) ((bl p : Int) - bl q - i - 1) := by
  refine ⟨⟨P * pw i, Q, d, r, bl q - bl p + i, bl p - bl q, Q0, h.eq, h.lt, rfl, by omega, h.hi, by omega, ?_⟩, by omega, by omega⟩
  rw [hP, hQ, pw_add]
  generalize pw (bl q - bl p) = s; generalize pw (bl p - bl q) = t; generalize pw i = z
  grind
theorem sticky {d r Q M D h k : Nat} (Q0 : 0 < Q) (hM : M = d * Q + r) (hr : r < Q) (hD : D = 2 * d + (if r = 0 then 0 else 1)) (he : h % 2 = 0)
    (up : D < (2 * k + 1) * h ∨ (D = (2 * k + 1) * h ∧ k % 2 = 0)) (dn : k ≠ 0 → (2 * k - 1) * h < D ∨ ((2 * k - 1) * h = D ∧ k % 2 = 0)) :
    (2 * M < (2 * k + 1) * (Q * h) ∨ (2 * M = (2 * k + 1) * (Q * h) ∧ k % 2 = 0)) ∧ (k ≠ 0 → (2 * k - 1) * (Q * h) < 2 * M ∨ ((2 * k - 1) * (Q * h) = 2 * M ∧ k % 2 = 0)) := by
  obtain ⟨g, rfl⟩ : ∃ g, h = 2 * g := ⟨h / 2, by omega⟩
  have ev : ∀ z, (z * (2 * g)) = 2 * (z * g) := fun z => by grind
  have tr : ∀ z, z * (Q * (2 * g)) = (z * (2 * g)) * Q := fun z => by grind
  have E2 : 2 * M = 2 * d * Q + 2 * r := by rw [hM, Nat.mul_add, Nat.mul_assoc]
  by_cases r0 : r = 0
  · rw [if_pos r0, Nat.add_zero] at hD
    rw [r0, Nat.mul_zero, Nat.add_zero, ← hD] at E2
    refine ⟨?_, fun k0 => ?_⟩
    · rcases up with h | ⟨h, e⟩
      · exact Or.inl (by rw [E2, tr]; exact Nat.mul_lt_mul_of_pos_right h Q0)
      · exact Or.inr ⟨by rw [E2, tr, h], e⟩
    · rcases dn k0 with h | ⟨h, e⟩
      · exact Or.inl (by rw [E2, tr]; exact Nat.mul_lt_mul_of_pos_right h Q0)
      · exact Or.inr ⟨by rw [E2, tr, h], e⟩
  · rw [if_neg r0] at hD
    refine ⟨Or.inl ?_, fun k0 => Or.inl ?_⟩
    · have l : 2 * d + 2 ≤ (2 * k + 1) * (2 * g) := by
        have := ev (2 * k + 1)
        rcases up with h | ⟨h, e⟩ <;> omega
      have m := Nat.mul_le_mul_right Q l
      rw [tr, E2]
      rw [Nat.add_mul] at m
      omega
    · have l : (2 * k - 1) * (2 * g) ≤ 2 * d := by
        have := ev (2 * k - 1)
        rcases dn k0 with h | ⟨h, e⟩ <;> omega
      have m := Nat.mul_le_mul_right Q l
      rw [tr, E2]
      omega
/-- Half up, or half to even. -/
def upB (D h : Nat) : Prop := h < D % (2 * h) ∨ (D % (2 * h) = h ∧ D / (2 * h) % 2 = 1)
theorem half_no {D h : Nat} (h0 : 0 < h) (c : ¬ upB D h) : (D < (2 * (D / (2 * h)) + 1) * h ∨ (D = (2 * (D / (2 * h)) + 1) * h ∧ D / (2 * h) % 2 = 0)) ∧ (D / (2 * h) ≠ 0 → (2 * (D / (2 * h)) - 1) * h < D ∨ ((2 * (D / (2 * h)) - 1) * h = D ∧ D / (2 * h) % 2 = 0)) := by
  unfold upB at c
  have e := Nat.div_add_mod D (2 * h)
  generalize D / (2 * h) = k at *
  generalize D % (2 * h) = r at *
  have f : (2 * k + 1) * h = 2 * h * k + h := by grind
  have g : k ≠ 0 → (2 * k - 1) * h + h = 2 * h * k := fun k0 => by obtain ⟨j, rfl⟩ := Nat.exists_eq_succ_of_ne_zero k0; rw [show 2 * j.succ - 1 = 2 * j + 1 by omega]; grind
  refine ⟨?_, fun k0 => ?_⟩
  · rcases Nat.lt_or_ge r h with z | z
    · left; omega
    · have z1 : r = h := by omega
      right; omega
  · have := g k0
    left; omega
theorem half_up {D h : Nat} (h0 : 0 < h) (c : upB D h) : (D < (2 * (D / (2 * h) + 1) + 1) * h ∨ (D = (2 * (D / (2 * h) + 1) + 1) * h ∧ (D / (2 * h) + 1) % 2 = 0)) ∧ (D / (2 * h) + 1 ≠ 0 → (2 * (D / (2 * h) + 1) - 1) * h < D ∨ ((2 * (D / (2 * h) + 1) - 1) * h = D ∧ (D / (2 * h) + 1) % 2 = 0)) := by
  unfold upB at c
  have e := Nat.div_add_mod D (2 * h)
  have l := Nat.mod_lt D (show 0 < 2 * h by omega)
  generalize D / (2 * h) = k at *
  generalize D % (2 * h) = r at *
  have f : (2 * (k + 1) + 1) * h = 2 * h * k + 3 * h := by grind
  have g : (2 * (k + 1) - 1) * h = 2 * h * k + h := by rw [show 2 * (k + 1) - 1 = 2 * k + 1 by omega]; grind
  refine ⟨?_, fun k0 => ?_⟩
  · left; omega
  · rcases c with c | ⟨c, c2⟩
    · left; omega
    · right; omega
/-- What rounded tells is the nearest: for the unit u and what is dropped. -/
theorem Led.fl {p q D : Nat} {x u : Int} (L : Led p q D x) (q0 : q ≠ 0) (hu : u = max (x + 2) (-1074)) {n : Nat} (hn : u - x = (n : Int)) {t : Nat} (ht : u + 1074 = (t : Int)) {k : Nat}
    (up : D < (2 * k + 1) * pw (n - 1) ∨ (D = (2 * k + 1) * pw (n - 1) ∧ k % 2 = 0)) (dn : k ≠ 0 → (2 * k - 1) * pw (n - 1) < D ∨ ((2 * k - 1) * pw (n - 1) = D ∧ k % 2 = 0)) : Fl p q (min (t * 4503599627370496 + k) 9218868437227405312) := by
  obtain ⟨M, Q, d, r, a, b, Q0, hM, hr, hD, d1, d2, hx, V⟩ := L.ex
  have n2 : 2 ≤ n := by omega
  obtain ⟨j, rfl⟩ : ∃ j, n = j + 2 := ⟨n - 2, by omega⟩
  rw [show j + 2 - 1 = j + 1 by omega] at up dn
  have S := sticky (h := pw (j + 1)) Q0 hM hr hD (by rw [pw_succ]; omega) up dn
  have T0 : 0 < Q * pw (j + 1) := Nat.mul_pos Q0 (pw_pos _)
  refine round_flT (T := Q * pw (j + 1)) (n := M) q0 T0 ?_ S.1 S.2 ?_ ?_
  · have := pw_shift (m := 1074 + (j + 1)) (n := t) V (by omega)
    rw [pw_add 1074 (j + 1)] at this
    generalize pw 1074 = z at *; generalize pw (j + 1) = y at *
    grind
  · by_cases c : u = -1074
    · left; omega
    · right
      obtain rfl : j = 0 := by omega
      rw [show pw (0 + 1) = 2 by rw [pw_succ, pw_zero]]
      have := Nat.mul_le_mul_right Q d1
      omega
  · have h1 : 2 ≤ pw (j + 1) := by rw [pw_succ]; have := pw_pos j; omega
    have h2 : Q * 2 ≤ Q * pw (j + 1) := Nat.mul_le_mul_left Q h1
    have h3 : (d + 1) * Q ≤ 18014398509481984 * Q := Nat.mul_le_mul_right Q (by omega)
    rw [Nat.add_mul, Nat.one_mul] at h3
    omega
theorem Led.big {p q D : Nat} {x : Int} (L : Led p q D x) : 18014398509481984 ≤ D ∧ D < 36028797018963968 := by
  obtain ⟨M, Q, d, r, a, b, Q0, hM, hr, hD, d1, d2, hx, V⟩ := L.ex
  rw [hD]
  split <;> omega
end Go.Proofs.YtdnikdocfbbkkaaDoor
namespace Go.Proofs.YtdnikdocfbbkkaaDoor
open Go.RowKit
set_option linter.unusedVariables false
set_option linter.unusedSimpArgs false

theorem ln_1 : ln 1 = 1 := Nat.le_antisymm (ln_le (by rw [B_eq]; decide)) (ln_pos (by decide))
theorem or_dig {d b : Nat} (hd : d < 18014398509481984) (hb : b < 2) : bits BinOp.or IntKind.u64 ((d : Int) * 2) (b : Int) = ((2 * d + b : Nat) : Int) := by
  rw [show ((d : Int) * 2) = ((2 * d : Nat) : Int) by omega, u64_or_nat _ _ (by omega) (by omega)]
  congr 1
  rw [show 2 * d = 2 ^ 1 * d by omega, Nat.two_pow_add_eq_or_of_lt (by omega)]
set_option maxHeartbeats 4000000 in
set_option maxRecDepth 100000 in
/-- approx.leading. -/
theorem leading_any {A A' : Option Addr} {n c n' c' p q : Nat} {w : World} (ha : Lim w A n c (limbs p)) (hb : Lim w A' n' c' (limbs q)) (f : Fq p q) (p0 : p ≠ 0) : Calls Tryd.prog 97 #[.agg #[.slice A n c, .slice A' n' c']] w fun e w' => ∃ (D : Nat) (x : Int), Led p q D x ∧ e = .returned (.tuple #[.int .u64 (D : Int), .int .i64 x]) ∧ Below w.heap.size w w' := by
  obtain ⟨P, Q, hP, hQ, P2, Q2, lP, lQ, Q0, u1, v1, u2, v2⟩ := lead_bits p0 f.q0 f.lp f.lq
  have S := ((Fs.start w).put ha).put hb |>.box (.slice A n c) (.slice A' n' c')
  obtain ⟨U, hU⟩ : ∃ U, bl p = U := ⟨_, rfl⟩
  obtain ⟨V, hV⟩ : ∃ V, bl q = V := ⟨_, rfl⟩
  have KU : Hid (∀ W, Lim W A n c (limbs p) → Calls Tryd.prog 30 #[.slice A n c] W fun e w' => e = .returned (.int .i64 (U : Int)) ∧ W = w') := fun W h => hU ▸ bits_any h f.lp
  have KV : Hid (∀ W, Lim W A' n' c' (limbs q) → Calls Tryd.prog 30 #[.slice A' n' c'] W fun e w' => e = .returned (.int .i64 (V : Int)) ∧ W = w') := fun W h => hV ▸ bits_any h f.lq
  have DN : Hid (∀ i d r, Lg P Q i d r → ¬ d < 9007199254740992 → i ≤ 54 → Led p q (2 * d + (if r = 0 then 0 else 1)) ((U : Int) - V - i - 1)) := fun i d r h c hi => hU ▸ hV ▸ h.done hP hQ Q0 c hi u1 v1 u2 v2
  rw [hU, hV] at hP hQ
  rw [hU] at u1 u2
  rw [hV] at v1 v2
  have LP := Lib.hid lP; have LQ := Lib.hid lQ; have HP := Lib.hid hP; have HQ := Lib.hid hQ; have Q0 := Lib.hid Q0; have P2 := Lib.hid P2; have Q2 := Lib.hid Q2
  have FF := Lib.hid f
  obtain ⟨E, hE⟩ : ∃ E : Int, (U : Int) - V = E := ⟨_, rfl⟩
  have WE : Hid (IntKind.i64.wrap ((U : Int) - V) = E) := by unfold Hid; rw [IntKind.wrap_i64]; omega
  have E1 : -2048 ≤ E := by omega
  have E2 : E ≤ 2048 := by omega
  obtain ⟨s1, hs1⟩ : ∃ s1 : Nat, V - U = s1 := ⟨_, rfl⟩
  obtain ⟨s2, hs2⟩ : ∃ s2 : Nat, U - V = s2 := ⟨_, rfl⟩
  have m1 : max 0 (-E) = (s1 : Int) := by omega
  have m2 : max 0 E = (s2 : Int) := by omega
  have K1 : Hid (∀ W, Lim W A n c (limbs p) → Calls Tryd.prog 105 #[.slice A n c, .int .i64 (s1 : Int)] W fun e w' => RetN P W e w') := fun W h => by
    rw [hP, hs1]; rw [hP, hs1] at lP; exact ashift_any h f.lp (by omega) lP
  have K2 : Hid (∀ W, Lim W A' n' c' (limbs q) → Calls Tryd.prog 105 #[.slice A' n' c', .int .i64 (s2 : Int)] W fun e w' => RetN Q W e w') := fun W h => by
    rw [hQ, hs2]; rw [hQ, hs2] at lQ; exact ashift_any h f.lq (by omega) lQ
  have DN : Hid (∀ i d r, Lg P Q i d r → ¬ d < 9007199254740992 → i ≤ 54 → Led p q (2 * d + (if r = 0 then 0 else 1)) (E - i - 1)) := hE ▸ DN
  clear hs1 hs2 hE
  clear ha hb p0 f lP lQ hP hQ hU hV
  go_enter Tryd.func97, Tryd.ntmps97
  go_upto_region 1 with fail
  generalize w.alloc (.cells #[.slice A n c, .slice A' n' c'] 50) = w0 at *
  generalize w.heap.size = b0 at *
  have CC : Hid (∀ W, Below w0.heap.size w0 W → W.cell? ⟨b0, 0, none⟩ = some (.slice A n c) ∧ W.cell? ⟨b0, 1, none⟩ = some (.slice A' n' c')) := fun W h => ⟨(S.next h).cel.1.1, (S.next h).cel.1.2.1⟩
  have SS := Lib.hid S
  clear S
  go_cut [4] (fun s4 wx => s4 = .int .i64 E ∧ Below w0.heap.size w0 wx)
  case first =>
    go_region_held3 (fun W => W.cell? ⟨b0, 0, none⟩ = some (.slice A n c) ∧ W.cell? ⟨b0, 1, none⟩ = some (.slice A' n' c'))
      ((refine CC.out _ ?_; repeat (first | with_reducible exact Below.refl _ _ | with_reducible exact (Below.refl _ _).drew | refine below_step ?_ (by assumption))))
      (first
        | (go_at_call 30; (with_reducible refine (KU.out _ ?_).mono ?_); (· first | exact SS.out.lie.2.1 | exact SS.out.drew.lie.2.1); rintro e z1 ⟨rfl, rfl⟩)
        | (go_at_call 30; (with_reducible refine (KV.out _ ?_).mono ?_); (· first | exact SS.out.lie.1 | exact SS.out.drew.lie.1); rintro e z1 ⟨rfl, rfl⟩))
    all_goals go_wp2_with fail
    all_goals go_meet
    all_goals go_light
    all_goals exact ⟨by rw [WE.out], by first | exact Below.refl _ _ | exact (Below.refl _ _).drew⟩
  case rest =>
    obtain ⟨rfl, B1⟩ := hcut
    have S := SS.out.next B1
    clear SS CC B1 KU KV WE
    go_upto_region 2 with fail
    generalize wc = w1 at *
    have CC : Hid (∀ W, Below w1.heap.size w1 W → W.cell? ⟨b0, 0, none⟩ = some (.slice A n c) ∧ W.cell? ⟨b0, 1, none⟩ = some (.slice A' n' c')) := fun W h => ⟨(S.next h).cel.1.1, (S.next h).cel.1.2.1⟩
    have K1 : Hid (∀ W, Below w1.heap.size w1 W → Calls Tryd.prog 105 #[.slice A n c, .int .i64 (s1 : Int)] W fun e w' => RetN P W e w') := fun W h => K1.out W (S.next h).lie.2.1
    have K2 : Hid (∀ W, Below w1.heap.size w1 W → Calls Tryd.prog 105 #[.slice A' n' c', .int .i64 (s2 : Int)] W fun e w' => RetN Q W e w') := fun W h => K2.out W (S.next h).lie.1
    have SS := Lib.hid S
    clear S
    have wn : IntKind.i64.wrap (-E) = -E := by rw [IntKind.wrap_i64]; omega
    go_cut [5, 6] (fun s5 s6 wx => ∃ A1 n1 c1 A2 n2 c2, s5 = .slice A1 n1 c1 ∧ s6 = .slice A2 n2 c2 ∧ Lim wx A1 n1 c1 (limbs P) ∧ Lim wx A2 n2 c2 (limbs Q) ∧ Below w1.heap.size w1 wx)
    case first =>
      go_region_held3 (fun W => W.cell? ⟨b0, 0, none⟩ = some (.slice A n c) ∧ W.cell? ⟨b0, 1, none⟩ = some (.slice A' n' c'))
        ((refine CC.out _ ?_; repeat (first | with_reducible exact Below.refl _ _ | with_reducible exact (Below.refl _ _).drew | refine below_step ?_ (by assumption))))
        (first
          | (go_at_call 105; (with_reducible refine (K1.out _ ?_).mono ?_); (· repeat (first | with_reducible exact Below.refl _ _ | with_reducible exact (Below.refl _ _).drew | refine below_step ?_ (by assumption))); rintro e z1 ⟨A1, n1, c1, rfl, L1, B1⟩)
          | (go_at_call 105; (with_reducible refine (K2.out _ ?_).mono ?_); (· repeat (first | with_reducible exact Below.refl _ _ | with_reducible exact (Below.refl _ _).drew | refine below_step ?_ (by assumption))); rintro e z2 ⟨A2, n2, c2, rfl, L2, B2⟩))
      all_goals go_wp2_with fail
      all_goals go_meet
      all_goals go_light
      all_goals refine ⟨_, _, _, _, _, _, rfl, rfl, ?_, ?_, ?_⟩
      all_goals (repeat (first | assumption | with_reducible exact Below.refl _ _ | with_reducible exact (Below.refl _ _).drew | refine Lim.next ?_ (by assumption) | refine below_step ?_ (by assumption)))
    case rest =>
      obtain ⟨A1, n1, c1, A2, n2, c2, rfl, rfl, L1, L2, B1⟩ := hcut
      have S := ((SS.out.next B1).put L1).put L2
      clear L1 L2 B1 SS CC K1 K2
      generalize wc = w2 at *
      have Q1 : Hid (Q ≠ 0) := Nat.ne_of_gt Q0.out
      go_wp2_with fail
      refine (div_any S.lie.2.1 S.lie.1 LP.out LQ.out Q1.out).mono ?_
      rintro e w3 ⟨A3, n3, c3, A4, n4, c4, rfl, L3, L4, B1⟩
      have S := (S.next B1).put L4
      have G0 : Lg P Q 0 (P / Q) (P % Q) := Lg.start P2.out Q2.out
      have l3 := L3.len
      rw [limbs_length] at l3
      have d2 : P / Q < 2 := Nat.div_lt_of_lt_mul (by have := P2.out; omega)
      obtain ⟨d0, hd0⟩ : ∃ d0, P / Q = d0 := ⟨_, rfl⟩
      rw [hd0] at l3 d2 G0
      obtain rfl : n3 = d0 := by
        rw [← l3]
        rcases (show d0 = 0 ∨ d0 = 1 by omega) with h | h
        · rw [h, ln_zero]
        · rw [h]; exact ln_1
      have d0n : (0 : Int) ≤ n3 := by omega
      have d02 : (n3 : Int) < 2 := by omega
      have G0 := Lib.hid G0
      clear hd0 l3 d2 L3 L4 B1 Q1
      generalize P % Q = r0 at *
      have Sb := Lib.hid S.bl
      have SQ := Lib.hid S.lie.2.1
      have SR := Lib.hid S.lie.1
      clear S
      go_wp2_with fail
      go_loopg [4, 8, 10, 11] 54 (fun gk s4 s8 s10 s11 wr => ∃ (i d r : Nat) (A8 : Option Addr) (n8 c8 : Nat), i + gk = 54 ∧ s4 = .int .i64 (E - i) ∧ s8 = .slice A8 n8 c8 ∧ s10 = .int .u64 (d : Int) ∧ Hid (Lg P Q i d r) ∧ Hid (Lim wr A8 n8 c8 (limbs r)) ∧ Hid (Lim wr A2 n2 c2 (limbs Q)) ∧ Hid (Below w.heap.size w wr))
      case atStart => exact ⟨0, n3, r0, _, _, _, by omega, by simp, rfl, rfl, G0, SR, SQ, Sb⟩
      case round =>
        clear SR SQ Sb G0 d0n d02
        obtain ⟨i, d, r, A8, n8, c8, hg, rfl, rfl, rfl, G, SR, SQ, Sb⟩ := hrel
        have d0 : (0 : Int) ≤ d := by omega
        have dh : (d : Int) < 18014398509481984 := by have := G.out.hi; omega
        have i54 : (i : Int) ≤ 54 := by omega
        by_cases c : d < 9007199254740992
        · have h53 : (d : Int) / 9007199254740992 = 0 := by omega
          have ST := Lib.hid (G.out.step Q2.out c)
          have few : i < 54 := G.out.few c
          have b2 : 2 * r / Q < 2 := Nat.div_lt_of_lt_mul (by have := G.out.lt; omega)
          have K := digit_any SR.out SQ.out LQ.out G.out.lt
          have HG := Lib.hid hg
          clear hg
          go_wp2_with fail
          refine K.mono ?_
          clear K
          rintro e w9 ⟨A9, n9, c9, rfl, L9, B9⟩
          generalize 2 * r / Q = b at *
          generalize 2 * r % Q = r9 at *
          have L9 := Lib.hid L9; have B9 := Lib.hid B9
          go_wp2_with fail
          go_roundg (gk - 1)
          case measure => have := HG.out; omega
          case rel =>
            go_light
            refine ⟨i + 1, 2 * d + b, r9, _, _, _, by have := HG.out; omega, by rw [Int.natCast_add]; congr 1; omega, rfl, by rw [or_dig G.out.hi b2], ST, L9, SQ.out.next B9.out, below_step Sb.out B9.out⟩
        · have h53 : (d : Int) / 9007199254740992 = 1 := by omega
          have D1 := Lib.hid (DN.out i d r G.out c (by omega))
          have hl := SR.out.len
          rw [limbs_length] at hl
          have od : Hid (bits BinOp.or IntKind.u64 ((d : Int) * 2) 1 = ((2 * d + 1 : Nat) : Int)) := or_dig (b := 1) G.out.hi (by decide)
          clear hg c SR SQ G
          by_cases r0 : r = 0
          · rw [if_pos r0] at D1
            have n80 : n8 = 0 := by rw [← hl, r0, ln_zero]
            subst n80
            clear hl r0 od
            go_wp2_with fail
            go_ret2
            exact ⟨_, _, D1.out, by simp; omega, Sb.out⟩
          · rw [if_neg r0] at D1
            have n80 : (0 : Int) < n8 := by have := ln_pos r0; omega
            clear hl r0
            go_upto_region 11 with fail
            clear dh h53 d0
            generalize (d : Int) * 2 = z at *
            go_wp2_with fail
            go_ret2
            exact ⟨_, _, D1.out, by rw [od.out]; rfl, Sb.out⟩
end Go.Proofs.YtdnikdocfbbkkaaDoor
