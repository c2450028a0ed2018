/- The walk of wide.divLong. -/
import Derived.Test.YtgafejolijjiiaaWalkD
import Derived.Test.YtgafejolijjiiaaMathF
namespace Go.Proofs.Ytgafejolijjiiaa
open Go.RowKit
set_option linter.unusedSimpArgs false
set_option linter.unusedVariables false

/-- Three blocks of the call's own: two numbers, and one that may be written. -/
structure Three (w : World) (a b : Nat) (x y : Value) (wx : World) : Prop where
  a0 : wx.cell? ⟨w.heap.size, 0, none⟩ = some (.int .u64 (hi a))
  a1 : wx.cell? ⟨w.heap.size, 1, none⟩ = some (.int .u64 (lo a))
  b0 : wx.cell? ⟨w.heap.size + 1, 0, none⟩ = some (.int .u64 (hi b))
  b1 : wx.cell? ⟨w.heap.size + 1, 1, none⟩ = some (.int .u64 (lo b))
  r0 : wx.cell? ⟨w.heap.size + 1 + 1, 0, none⟩ = some x
  r1 : wx.cell? ⟨w.heap.size + 1 + 1, 1, none⟩ = some y
  m0 : wx.frozen? ⟨w.heap.size + 1 + 1, 0, none⟩ = false
  m1 : wx.frozen? ⟨w.heap.size + 1 + 1, 1, none⟩ = false
  sz : w.heap.size + 1 + 1 < wx.heap.size
  bl : Below w.heap.size w wx
theorem Three.next {w : World} {a b : Nat} {x y : Value} {W w1 : World} (t : Three w a b x y W) (hb : Below W.heap.size W w1) : Three w a b x y w1 :=
  ⟨keep_cell hb t.a0, keep_cell hb t.a1, keep_cell hb t.b0, keep_cell hb t.b1, keep_cell hb t.r0, keep_cell hb t.r1, keep_melt hb t.r0 t.m0, keep_melt hb t.r1 t.m1, Nat.lt_of_lt_of_le t.sz hb.size, t.bl.trans (hb.mono (by have := t.sz; omega))⟩
theorem Three.start (w : World) (a b : Nat) (x y : Value) : Three w a b x y (((w.alloc (.cells #[.int .u64 (hi a), .int .u64 (lo a)] 24)).alloc (.cells #[.int .u64 (hi b), .int .u64 (lo b)] 24)).alloc (.cells #[x, y] 24)) := by
  refine ⟨?_, ?_, ?_, ?_, ?_, ?_, ?_, ?_, ?_, three_bel _ _ _ _⟩ <;> simp [go_sem, World.cell?_alloc_past]
theorem Three.drewN {w : World} {a b : Nat} {x y : Value} {W : World} (t : Three w a b x y W) (n : Nat) : Three w a b x y (W.drewN n) := ⟨t.a0, t.a1, t.b0, t.b1, t.r0, t.r1, t.m0, t.m1, t.sz, below_drewN t.bl n⟩
theorem Three.drew {w : World} {a b : Nat} {x y : Value} {W : World} (t : Three w a b x y W) : Three w a b x y W.drew := ⟨t.a0, t.a1, t.b0, t.b1, t.r0, t.r1, t.m0, t.m1, t.sz, t.bl.drew⟩

theorem Three.set {w : World} {a b : Nat} {x y : Value} {W : World} (t : Three w a b x y W) {p : Addr} (v : Value) (hp : w.heap.size + 1 + 1 < p.block) : Three w a b x y (W.setCell p v) :=
  ⟨keep_set t.a0 _ (by simp <;> omega), keep_set t.a1 _ (by simp <;> omega), keep_set t.b0 _ (by simp <;> omega), keep_set t.b1 _ (by simp <;> omega), keep_set t.r0 _ (by simp <;> omega), keep_set t.r1 _ (by simp <;> omega),
    (World.frozen?_setCell _ _ _ _).trans t.m0, (World.frozen?_setCell _ _ _ _).trans t.m1, by rw [World.size_setCell]; exact t.sz, t.bl.setCell (by omega) _⟩
theorem Three.alloc {w : World} {a b : Nat} {x y : Value} {W : World} (t : Three w a b x y W) (o : Obj) : Three w a b x y (W.alloc o) := t.next ((Below.refl _ _).alloc (Nat.le_refl _) o)
theorem bcell {W w1 : World} (hb : Below W.heap.size W w1) : (∀ b o, b < W.heap.size → w1.cell? ⟨b, o, none⟩ = W.cell? ⟨b, o, none⟩) ∧ (∀ b o, b < W.heap.size → w1.frozen? ⟨b, o, none⟩ = W.frozen? ⟨b, o, none⟩) :=
  ⟨fun _ _ h => hb.cell h, fun _ _ h => hb.frozen h⟩

theorem sub_bel (a b : Nat) (ha : Fits a) (hb : Fits b) (h : b ≤ a) (w : World) : Calls Try.prog 13 #[U a, U b] w fun e w' => e = .returned (.tuple #[U (a - b), .bool true]) ∧ Below w.heap.size w w' :=
  (sub_fits a b ha hb h w).mono fun _ _ ⟨he, _, _, _, hw⟩ => ⟨he, by subst hw; exact three_bel _ _ _ _⟩
theorem cmp_bel (a b : Nat) (w : World) : Calls Try.prog 15 #[U a, U b] w fun e w' => e = .returned (.int .i64 (sgn a b)) ∧ Below w.heap.size w w' :=
  (cmp_any a b w).mono fun _ _ ⟨he, _, _, hw⟩ => ⟨he, by subst hw; exact two_bel _ _ _⟩
theorem sgn_ge {a b : Nat} (h : b ≤ a) : 0 ≤ sgn a b := by unfold sgn; (repeat' split) <;> omega
theorem sgn_lt {a b : Nat} (h : ¬ b ≤ a) : ¬ 0 ≤ sgn a b := by unfold sgn; (repeat' split) <;> omega
theorem fits_sub {a : Nat} (h : Fits a) (b : Nat) : Fits (a - b) := by unfold Fits at *; omega

/-- Behind the guess. -/
def LongRel (a b : Nat) (w : World) (s8 : Value) (wx : World) : Prop := s8 = .int .u64 (lo (guess a b)) ∧ Three w a b (.int .u64 0) (.int .u64 0) wx

theorem nat_words (n : Nat) : hi n = ((n / 18446744073709551616 : Nat) : Int) ∧ lo n = ((n % 18446744073709551616 : Nat) : Int) := by unfold hi lo; exact ⟨rfl, rfl⟩
theorem top_bits (b : Nat) (h : Fits b) (hh : hi b ≠ 0) : bits .or .u64 (IntKind.u64.wrap (hi b * 2 ^ lead (b / 18446744073709551616))) (lo b / 2 ^ (64 - lead (b / 18446744073709551616))) = ((top b : Nat) : Int) := by
  have ge : 18446744073709551616 ≤ b := hi_ne hh
  have lt : b < 340282366920938463463374607431768211456 := by unfold Fits at h; exact h
  have n1 : b / 18446744073709551616 ≠ 0 := by omega
  have n2 : b / 18446744073709551616 < 18446744073709551616 := by omega
  have l1 := lead_le _ n1 n2
  have l3 := lead_high _ n1 n2
  have m1 := moved (b % 18446744073709551616) (lead (b / 18446744073709551616)) (by omega) (Nat.mod_lt _ (by decide))
  have q : b % 18446744073709551616 / 2 ^ (64 - lead (b / 18446744073709551616)) < 18446744073709551616 := by
    have := Nat.div_le_self (b % 18446744073709551616) (2 ^ (64 - lead (b / 18446744073709551616)))
    omega
  rw [(nat_words b).1, (nat_words b).2, wrap_mul, Nat.mod_eq_of_lt l3, high_part, bits_or_u64_nat _ _ l3 q, or_add _ _ _ m1.1]
  unfold top
  rfl
theorem half_hi (a : Nat) : hi a / 2 = hi (a / 2) := by unfold hi; omega
theorem half_lo (a : Nat) : bits .or .u64 (IntKind.u64.wrap (hi a * 9223372036854775808)) (lo a / 2) = lo (a / 2) := by
  have e1 : IntKind.u64.wrap (hi a * 9223372036854775808) = ((a / 18446744073709551616 % 2 * 2 ^ 63 : Nat) : Int) := by
    rw [IntKind.wrap_u64, (nat_words a).1]; omega
  have e2 : lo a / 2 = ((a % 18446744073709551616 / 2 : Nat) : Int) := by rw [(nat_words a).2]; omega
  rw [e1, e2, bits_or_u64_nat _ _ (by omega) (by omega), or_add _ _ _ (by omega), (nat_words (a / 2)).2]
  refine congrArg (fun m : Nat => (m : Int)) ?_
  omega
theorem half_sum (a : Nat) : (hi (a / 2)).toNat * 18446744073709551616 + (lo (a / 2)).toNat = a / 2 := by rw [toNat_hi, toNat_lo]; omega
theorem fits_half {a : Nat} (h : Fits a) : Fits (a / 2) := by unfold Fits at *; omega
theorem half_lt {a : Nat} (h : Fits a) : hi (a / 2) < 9223372036854775808 := by unfold Fits hi at *; omega
theorem fits_word (x : Int) (h : Word x) : Fits x.toNat := by have := h.lt; unfold Fits; omega
theorem guess_fits (a b : Nat) (ha : Fits a) (h : Fits b) (hh : hi b ≠ 0) : guess a b < 18446744073709551616 := by
  have ge : 18446744073709551616 ≤ b := hi_ne hh
  unfold Fits at *
  have := guess_lt a b ha ge h
  unfold guess
  exact Nat.lt_of_le_of_lt (Nat.div_le_self _ _) this

set_option maxHeartbeats 1000000 in
set_option maxRecDepth 100000 in
theorem divLong_any (a b : Nat) (ha : Fits a) (hb : Fits b) (hh : hi b ≠ 0) (w : World) :
    Calls Try.prog 34 #[U a, U b] w fun e w' => e = .returned (.tuple #[.int .u64 (lo (a / b)), U (a % b)]) ∧ Below w.heap.size w w' := by
  have HA := Lib.hid ha; have HB := Lib.hid hb; have HH := Lib.hid hh
  obtain ⟨H, hH⟩ : ∃ H : Nat, hi b = (H : Int) := ⟨(hi b).toNat, by have := hi_nonneg b; omega⟩
  have H1 : H = b / 18446744073709551616 := by have := toNat_hi b; omega
  have hn : H ≠ 0 := by omega
  have hl : H < 18446744073709551616 := by have := hi_lt hb; omega
  have LC : Hid ((64 : Int) - (Lib.bitLen (hi b).toNat : Int) = (lead H : Int)) := by unfold Hid; rw [hH, Int.toNat_natCast]; exact lead_cast H hn hl
  have ll := lead_le H hn hl
  have b0 := hi_nonneg b
  have b1 : Hid (hi b ≤ 18446744073709551615) := by unfold Hid; have := hi_lt hb; omega
  have HHH := Lib.hid hH; have H1' := Lib.hid H1
  have T1 : Hid (bits .or .u64 (IntKind.u64.wrap (hi b * 2 ^ lead H)) (lo b / 2 ^ (64 - lead H)) = ((top b : Nat) : Int)) := by unfold Hid; rw [H1]; exact top_bits b hb hh
  have T2 := Lib.hid (half_hi a); have T3 := Lib.hid (half_lo a)
  have TF := top_facts b (hi_ne hh) (by unfold Fits at hb; exact hb)
  have tw : Word ((top b : Nat) : Int) := word_nat TF.2.1
  have D := fun w => div64_any (hi (a / 2)) (lo (a / 2)) ((top b : Nat) : Int) (word_hi (fits_half ha)) (word_lo _) tw (by have := half_lt ha; omega) w
  rw [half_sum, Int.toNat_natCast] at D
  have DD := Lib.hid D
  have GG : Hid ((((a / 2 / top b : Nat) : Int)) / 2 ^ (63 - lead H) = lo (guess a b)) := by
    unfold Hid
    rw [high_part, lo_small (guess_fits a b ha hb hh), H1]
    unfold guess
    rfl
  obtain ⟨Q, hQ⟩ : ∃ Q, a / 2 / top b = Q := ⟨_, rfl⟩
  rw [hQ] at GG D
  have DD := Lib.hid D
  clear hH H1 hn hl ha hb hh TF D hQ
  go_enter Try.func34, Try.ntmps34
  go_upto_region 2 with (go_at_call 40; refine (Try.bits_LeadingZeros64 _ _ (by assumption) b1.out).mono ?_; rintro e w' ⟨rfl, hw⟩; rw [hw, LC.out]; clear hw)
  go_quiet (fail)
  go_upto_region 4 with (go_at_call 39; rw [T1.out, T2.out, T3.out]; refine (DD.out _).mono ?_; rintro e w' ⟨rfl, m, hm⟩; rw [hm, World.drewN_drewN]; clear hm)
  go_cut [8] (fun s8 wx => LongRel a b w s8 wx)
  case first =>
    go_wp2_with fail
    go_meet
    go_light
    exact ⟨by rw [GG.out], (Three.start w a b _ _).drewN _⟩
  case rest =>
    obtain ⟨rfl, T⟩ := hcut
    clear GG DD tw T1 T2 T3 LC ll b0 b1 HHH H1'
    have G0 := lo_nonneg (guess a b)
    have GW := Lib.hid (guess_fits a b HA.out HB.out HH.out)
    have GM := Lib.hid (guess_mend a b (by have := HA.out; unfold Fits at this; exact this) (hi_ne HH.out) (by have := HB.out; unfold Fits at this; exact this))
    go_upto_if 47 with fail
    go_cut [8] (fun s8 wx => s8 = .int .u64 (lo (guess a b - 1)) ∧ wx = wc)
    case first =>
      by_cases g0 : guess a b = 0
      · have e0 : lo (guess a b) = 0 := by rw [g0]; exact lo_zero
        have e1 : Hid (lo (guess a b - 1) = 0) := by unfold Hid; rw [g0]; exact lo_zero
        clear g0
        go_wp2_with fail
        go_meet
        go_light
        exact ⟨by rw [e0, e1.out], rfl⟩
      · have e0 : 0 < lo (guess a b) := by rw [lo_small GW.out]; omega
        have e1 : Hid (lo (guess a b - 1) = lo (guess a b) - 1) := by unfold Hid; rw [lo_small GW.out, lo_small (by have := GW.out; omega)]; omega
        clear g0
        go_wp2_with fail
        go_meet
        go_light
        exact ⟨by rw [e1.out, IntKind.wrap_u64]; have := lo_lt (guess a b); exact congrArg _ (by omega), rfl⟩
    case rest =>
      obtain ⟨rfl, rfl⟩ := hcut
      obtain ⟨g, hg⟩ : ∃ g, guess a b - 1 = g := ⟨_, rfl⟩
      rw [hg]
      rw [hg] at GM
      have GF : Hid (g < 18446744073709551616) := by unfold Hid; have := GW.out; omega
      have gb : Fits (g * b) := by have h1 := GM.out.1; have h2 := HA.out; unfold Fits at *; omega
      have GE : Hid (cut ((lo g).toNat * b) = g * b) := by unfold Hid; rw [lo_small GF.out, Int.toNat_natCast, cut_yes gb]
      have GE2 : Hid (fitsB ((lo g).toNat * b) = true) := by unfold Hid; rw [lo_small GF.out, Int.toNat_natCast, fitsB_yes gb]
      have GB := Lib.hid gb
      clear hg GW G0 gb
      have t1 := T.b0; have t2 := T.b1; have tz := T.sz
      go_upto_region 7 with fail
      go_cut [10, 11] (fun s10 s11 wx => ∃ o, s10 = .pointer (some ⟨o, 0, none⟩) ∧ wx.cell? ⟨o, 0, none⟩ = some (.int .u64 (hi (g * b))) ∧ wx.cell? ⟨o, 1, none⟩ = some (.int .u64 (lo (g * b))) ∧ Three w a b (.int .u64 0) (.int .u64 0) wx)
      case first =>
        go_region_held3 (fun w' => w'.cell? ⟨w.heap.size + 1, 0, none⟩ = some (.int .u64 (hi b)) ∧ w'.cell? ⟨w.heap.size + 1, 1, none⟩ = some (.int .u64 (lo b)))
          ((refine ⟨?_, ?_⟩ <;> (repeat (first | with_reducible exact t1 | with_reducible exact t2 | with_reducible refine keep_alloc ?_ _ | with_reducible refine keep_drew ?_ | with_reducible refine keep_set ?_ _ (by simp <;> omega) | with_reducible refine keep_cell (by assumption) ?_))))
          (first
            | (go_at_call 22; refine (of_bel _ (word_lo g) _).mono ?_; rintro e w1 ⟨rfl, hb1⟩; obtain ⟨hc1, hf1⟩ := bcell hb1; have z1 := hb1.size; (try simp only [World.size_alloc, World.size_drew, Nat.add_one_le_iff] at z1))
            | (go_at_call 17; refine (mul_any _ b ?_ HB.out _).mono ?_; (first | exact fits_word _ (word_lo g)); rw [GE.out, GE2.out]; rintro e w2 ⟨rfl, hb2⟩; obtain ⟨hc2, hf2⟩ := bcell hb2; have z2 := hb2.size; (try simp only [World.size_alloc, World.size_drew, Nat.add_one_le_iff] at z2)))
        all_goals go_wp2_with fail
        all_goals go_meet
        all_goals go_light
        all_goals refine ⟨_, rfl, ?_, ?_, ?_⟩
        all_goals first
          | (simp [go_sem]; done)
          | (simp [go_sem, hc2, hc1, z1, z2]; done)
          | (repeat (first | with_reducible exact T | with_reducible refine Three.alloc ?_ _ | with_reducible refine Three.set ?_ _ (by simp only []; omega) | with_reducible refine Three.drew ?_ | with_reducible refine Three.next ?_ (by assumption)))
      case rest =>
        obtain ⟨o, rfl, o0, o1, T'⟩ := hcut
        clear t1 t2 tz T GE GE2
        have t1 := T'.a0; have t2 := T'.a1; have t3 := T'.b0; have t4 := T'.b1; have t5 := T'.r0; have t6 := T'.r1; have t7 := T'.m0; have t8 := T'.m1
        go_wp2_with fail
        refine (sub_bel a (g * b) HA.out GB.out GM.out.1 _).mono ?_
        rintro e w3 ⟨rfl, hb3⟩
        have T3 := (T'.next hb3).alloc (.cells #[.int .u64 (hi (a - g * b)), .int .u64 (lo (a - g * b))] 24)
        clear t1 t2 t3 t4 t5 t6 t7 t8 o0 o1
        have t3 := T3.b0; have t4 := T3.b1
        go_wp2_with fail
        refine (cmp_bel (a - g * b) b _).mono ?_
        rintro e w4 ⟨rfl, hb4⟩
        have T4 := T3.next hb4
        have q0 : w4.cell? ⟨w3.heap.size, 0, none⟩ = some (.int .u64 (hi (a - g * b))) := keep_cell hb4 (by simp [go_sem])
        have q1 : w4.cell? ⟨w3.heap.size, 1, none⟩ = some (.int .u64 (lo (a - g * b))) := keep_cell hb4 (by simp [go_sem])
        have q2 : w4.frozen? ⟨w3.heap.size, 0, none⟩ = false := keep_frozen hb4 (by simp) (by simp [go_sem])
        have q3 : w4.frozen? ⟨w3.heap.size, 1, none⟩ = false := keep_frozen hb4 (by simp) (by simp [go_sem])
        have q4 : w.heap.size + 1 + 1 < w3.heap.size := (T'.next hb3).sz
        clear t3 t4
        have t3 := T4.b0; have t4 := T4.b1; have t5 := T4.r0; have t6 := T4.r1; have t7 := T4.m0; have t8 := T4.m1; have t9 := T4.sz
        by_cases c : b ≤ a - g * b
        · have C := GM.out.2.2 c
          have sg := sgn_ge c
          have K0 := Lib.hid (sub_bel (a - g * b) b (fits_sub HA.out _) HB.out c)
          obtain ⟨C1, C2⟩ := C
          rw [C2] at K0
          have L1 : Hid (IntKind.u64.wrap (lo g + 1) = lo (a / b)) := by
            have h1 := HA.out; have h2 := hi_ne HH.out
            have h3 : a / b < 18446744073709551616 := (Nat.div_lt_iff_lt_mul (by omega)).2 (by unfold Fits at h1; have := Nat.mul_le_mul_left 18446744073709551616 h2; omega)
            unfold Hid; rw [lo_small GF.out, lo_small h3, ← C1, IntKind.wrap_u64]; omega
          clear c C1 C2
          go_wp2_with fail
          refine (K0.out _).mono ?_
          rintro e w5 ⟨rfl, hb5⟩
          have T5 := T4.next hb5
          have p0 := keep_cell hb5 q0; have p1 := keep_cell hb5 q1; have p2 := keep_melt hb5 q0 q2; have p3 := keep_melt hb5 q1 q3
          clear t3 t4 t5 t6 t7 t8 t9 q0 q1 q2 q3
          have t5 := T5.r0; have t6 := T5.r1; have t7 := T5.m0; have t8 := T5.m1
          go_wp2_with fail
          go_region
          go_wp2_with fail
          go_light
          rw [L1.out]
          exact bodyPost_ret (v := .tuple #[.int .u64 (lo (a / b)), U (a % b)]) (by simp [results, Try.results34, go_sem, t5, t6]) rfl ⟨rfl, ((((T5.bl.setCell (by simp only []; omega) _).setCell (by simp only []; omega) _).setCell (by simp only []; omega) _).setCell (by simp only []; omega) _).drew⟩
        · have C := GM.out.2.1 c
          have sg := sgn_lt c
          obtain ⟨C1, C2⟩ := C
          have D1 := Lib.hid C1; have D2 := Lib.hid C2
          clear c C1 C2
          go_wp2_with fail
          go_region
          go_wp2_with fail
          go_light
          rw [D2.out, D1.out]
          exact bodyPost_ret (v := .tuple #[.int .u64 (lo (a / b)), U (a % b)]) (by simp [results, Try.results34, go_sem, t5, t6]) rfl ⟨rfl, ((T4.bl.setCell (by simp only []; omega) _).setCell (by simp only []; omega) _).drew⟩
end Go.Proofs.Ytgafejolijjiiaa
