/- The document's answers for float64: cmp of any two fractions, the fraction of a float64. The program's approx: rounded, Float. The model's own rounding to a float64 finds the nearest one. What the model tells of float64s by their bits: the order, the difference of one with itself. -/
import Derived.Test.YtdnikdocfbbkkaaDoorJ15
import Derived.Laws.Externs
import Derived.WalkLawsBesides
import Ieee.Word
import Ieee.Arith
import Derived.Test.YtdnikdocfbbkkaaDoorJ09
namespace Go.Proofs.YtdnikdocfbbkkaaDoor
open Go.RowKit
set_option linter.unusedVariables false
set_option linter.unusedSimpArgs false

theorem fbits (x : Nat) (w : World) : (callFunc 54 #[.float .f64 x]).run Tryd.prog w = .ok (.value (.int .u64 (x : Int))) w := by
  rw [run_callFunc_extern Tryd.func54 (by kernel_rfl) (by kernel_rfl) (by kernel_rfl) (e := Extern.MathFloatBits.float64bits) (by kernel_rfl)]
  rfl
theorem ffrom (x : Nat) (w : World) : (callFunc 101 #[.int .u64 (x : Int)]).run Tryd.prog w = .ok (.value (.float .f64 x)) w := by
  rw [run_callFunc_extern Tryd.func101 (by kernel_rfl) (by kernel_rfl) (by kernel_rfl) (e := Extern.MathFloatBits.float64frombits) (by kernel_rfl)]
  rfl
theorem limL {W : World} {A : Option Addr} {n c x : Nat} (h : Lim W A n c (limbs x)) : n = ln x := by rw [← h.len, limbs_length]
theorem rmulL {W : World} {A A' : Option Addr} {n c n' c' x y : Nat} (h1 : Lim W A n c (limbs x)) (h2 : Lim W A' n' c' (limbs y)) (lx : ln x ≤ 1000) (ly : ln y ≤ 1000) : Calls Tryd.prog 22 #[.slice A n c, .slice A' n' c'] W fun e w' => RetN (x * y) W e w' := by
  have := refMul_any h1 h2 (by rw [limL h1]; omega) (by rw [limL h2]; omega)
  rwa [val_limbs, val_limbs] at this
theorem raddL {W : World} {A A' : Option Addr} {n c n' c' x y : Nat} (h1 : Lim W A n c (limbs x)) (h2 : Lim W A' n' c' (limbs y)) (lx : ln x ≤ 1000) (ly : ln y ≤ 1000) : Calls Tryd.prog 20 #[.slice A n c, .slice A' n' c'] W fun e w' => RetN (x + y) W e w' := by
  have := refAdd_any h1 h2 (by rw [limL h1]; omega) (by rw [limL h2]; omega)
  rwa [val_limbs, val_limbs] at this
theorem rcmpL {W : World} {A A' : Option Addr} {n c n' c' x y : Nat} (h1 : Lim W A n c (limbs x)) (h2 : Lim W A' n' c' (limbs y)) (lx : ln x ≤ 1000) (ly : ln y ≤ 1000) : Calls Tryd.prog 93 #[.slice A n c, .slice A' n' c'] W fun e w' => e = .returned (.int .i64 (sgn x y)) ∧ Below W.heap.size W w' :=
  (refCmp_any h1 h2 (by omega) (by omega)).mono fun _ _ ⟨he, m, hm⟩ => ⟨he, by subst hm; exact below_drewN (Below.refl _ _) m⟩
set_option maxHeartbeats 4000000 in
set_option maxRecDepth 100000 in
/-- samphireref04.cmp. -/
theorem cmp4_any {A A' D D' : Option Addr} {n c n' c' m k m' k' p q x y : Nat} {w : World} (ha : Lim w A n c (limbs p)) (ha' : Lim w A' n' c' (limbs q)) (hb : Lim w D m k (limbs x)) (hb' : Lim w D' m' k' (limbs y)) (lp : ln p ≤ 400) (lq : ln q ≤ 400) (lx : ln x ≤ 400) (ly : ln y ≤ 400) :
    Calls Tryd.prog 99 #[.agg #[.slice A n c, .slice A' n' c'], .agg #[.slice D m k, .slice D' m' k']] w fun e w' => e = .returned (.int .i64 (sgn (p * y) (x * q))) ∧ Below w.heap.size w w' := by
  obtain ⟨sg, hsg⟩ : ∃ sg, sgn (p * y) (x * q) = sg := ⟨_, rfl⟩
  rw [hsg]
  have S := (((((Fs.start w).put ha).put ha').put hb).put hb').box (.slice A n c) (.slice A' n' c') |>.box (.slice D m k) (.slice D' m' k')
  simp only [World.size_alloc] at S
  clear ha ha' hb hb'
  go_enter Tryd.func99, Tryd.ntmps99
  go_upto_region 1 with fail
  generalize (w.alloc (.cells #[.slice A n c, .slice A' n' c'] 50)).alloc (.cells #[.slice D m k, .slice D' m' k'] 50) = w0 at *
  have KA : Hid (∀ W, Below w0.heap.size w0 W → Calls Tryd.prog 22 #[.slice A n c, .slice D' m' k'] W fun e w' => RetN (p * y) W e w') := fun W hW => rmulL (S.lie.2.2.2.1.next hW) (S.lie.1.next hW) (by omega) (by omega)
  have KB : Hid (∀ W, Below w0.heap.size w0 W → Calls Tryd.prog 22 #[.slice D m k, .slice A' n' c'] W fun e w' => RetN (x * q) W e w') := fun W hW => rmulL (S.lie.2.1.next hW) (S.lie.2.2.1.next hW) (by omega) (by omega)
  have KC : Hid (∀ (W : World) (G J : Option Addr) (g i j t : Nat), Lim W G g i (limbs (p * y)) → Lim W J j t (limbs (x * q)) → Calls Tryd.prog 93 #[.slice G g i, .slice J j t] W fun e w' => e = .returned (.int .i64 sg) ∧ Below W.heap.size W w') := fun W G J g i j t h h' => hsg ▸ rcmpL h h' (Nat.le_trans (ln_mul lp ly) (by decide)) (Nat.le_trans (ln_mul lx lq) (by decide))
  obtain ⟨⟨b0, b1, -⟩, ⟨a0, a1, -⟩, -⟩ := S.cel
  have CC : Hid (∀ W, Below w0.heap.size w0 W → W.cell? ⟨w.heap.size, 0, none⟩ = some (.slice A n c) ∧ W.cell? ⟨w.heap.size, 1, none⟩ = some (.slice A' n' c') ∧ W.cell? ⟨w.heap.size + 1, 0, none⟩ = some (.slice D m k) ∧ W.cell? ⟨w.heap.size + 1, 1, none⟩ = some (.slice D' m' k')) := fun W h => ⟨keep_cell h a0, keep_cell h a1, keep_cell h b0, keep_cell h b1⟩
  have SS := Lib.hid S
  clear a0 a1 b0 b1 S lp lq lx ly hsg
  go_region_held3 (fun w' => w'.cell? ⟨w.heap.size, 0, none⟩ = some (.slice A n c) ∧ w'.cell? ⟨w.heap.size, 1, none⟩ = some (.slice A' n' c') ∧ w'.cell? ⟨w.heap.size + 1, 0, none⟩ = some (.slice D m k) ∧ w'.cell? ⟨w.heap.size + 1, 1, none⟩ = some (.slice D' m' k'))
    ((refine CC.out _ ?_; repeat (first | with_reducible exact Below.refl _ _ | with_reducible exact (Below.refl _ _).drew | refine below_step ?_ (by assumption))))
    (first
      | (go_at_call 22; (with_reducible refine (KA.out _ ?_).mono ?_); (· repeat (first | with_reducible exact Below.refl _ _ | with_reducible exact (Below.refl _ _).drew | refine below_step ?_ (by assumption))); rintro e z1 ⟨A1, n1, c1, rfl, L1, B1⟩)
      | (go_at_call 22; (with_reducible refine (KB.out _ ?_).mono ?_); (· repeat (first | with_reducible exact Below.refl _ _ | with_reducible exact (Below.refl _ _).drew | refine below_step ?_ (by assumption))); rintro e z2 ⟨A2, n2, c2, rfl, L2, B2⟩)
      | (go_at_call 93; refine (KC.out _ _ _ _ _ _ _ ?_ ?_).mono ?_; (· repeat (first | assumption | refine Lim.next ?_ (by assumption))); (· repeat (first | assumption | refine Lim.next ?_ (by assumption))); rintro e z3 ⟨rfl, B3⟩))
  all_goals go_wp2_with fail
  all_goals go_ret
  all_goals refine ⟨rfl, ?_⟩
  all_goals (repeat (first | with_reducible exact SS.out.bl | with_reducible exact SS.out.bl.drew | refine below_step ?_ (by assumption)))
theorem lim_1 (w : World) : Lim (w.alloc (.cells #[.int .u32 1] 37)) (some ⟨w.heap.size, 0, none⟩) 1 1 (limbs 1) := lim_one w 1 (by decide) (by decide)
/-- The parts of the bits, as the walk meets them. -/
structure Bp (x b e f : Nat) : Prop where
  md : (x : Int).tmod 9223372036854775808 = (b : Int)
  mq : (b : Int).tdiv 4503599627370496 = (e : Int)
  mr : (b : Int).tmod 4503599627370496 = (f : Int)
  fl : f < 4503599627370496
  el : e ≤ 2046
theorem bp_mk {x b : Nat} (h : x % 9223372036854775808 = b) (lt : b < 9218868437227405312) : Bp x b (b / 4503599627370496) (b % 4503599627370496) :=
  ⟨by rw [← h]; exact (Int.ofNat_tmod x 9223372036854775808).symm, (Int.ofNat_tdiv b 4503599627370496).symm, (Int.ofNat_tmod b 4503599627370496).symm, Nat.mod_lt _ (by decide), by omega⟩
set_option maxHeartbeats 4000000 in
set_option maxRecDepth 100000 in
theorem of4_zero {x b : Nat} (h : Bp x b 0 0) (w : World) : Calls Tryd.prog 58 #[.float .f64 x] w fun e w' => RetR 0 1 w e w' := by
  have e1 := h.md; have e2 := h.mq; have e3 := h.mr
  clear h
  go_enter Tryd.func58, Tryd.ntmps58
  go_wp2_with (simp only [fbits x])
  have l1 := lim_1 (w.alloc (.cells #[.slice none 0 0, .slice (some ⟨w.heap.size + 1, 0, none⟩) 1 1] 50))
  rw [World.size_alloc] at l1
  exact bodyPost_ret (v := .agg #[.slice none 0 0, .slice (some ⟨w.heap.size + 1, 0, none⟩) 1 1]) (by simp [results, Tryd.results58, go_sem, World.cell?_alloc_past]) rfl ⟨_, _, _, _, _, _, rfl, lim_z _, l1, ((Below.refl _ _).alloc (Nat.le_refl _) _).alloc (by simp) _⟩

set_option maxHeartbeats 4000000 in
set_option maxRecDepth 100000 in
theorem of4_lowN {x b e f M D : Nat} (h : Bp x b e f) (e0 : ((e : Int) == 0) = false) (lt : (e : Int) < 1075) (hM : (f : Int) + 4503599627370496 = (M : Int)) (hD : -((e : Int) - 1075) = (D : Int)) (m0 : ((M : Int) == 0) = false) (lM : ln M ≤ 64) (wM : M < 18446744073709551616) (w : World) : Calls Tryd.prog 58 #[.float .f64 x] w fun e w' => RetR (M / Nat.gcd M (pw D)) (pw D / Nat.gcd M (pw D)) w e w' := by
  have e1 := h.md; have e2 := h.mq; have e3 := h.mr; have e4 := h.fl; have e5 := h.el
  have d1 : D ≤ 1075 := by omega
  have KO := Lib.hid (fun W => refOf_any M wM W)
  have KT := Lib.hid (fun W => two_any D (by omega) W)
  have LM := Lib.hid lM
  have LD : Hid (ln (pw D) ≤ 64) := Nat.le_trans (ln_pw (k := 34) (by omega)) (by decide)
  have D0 : Hid (pw D ≠ 0) := Nat.ne_of_gt (pw_pos D)
  have S := (Fs.start w).box (.slice none 0 0) (.slice none 0 0)
  clear h lM wM d1
  go_enter Tryd.func58, Tryd.ntmps58
  go_wp2_with (simp only [fbits x])
  generalize w.alloc (.cells #[.slice none 0 0, .slice none 0 0] 50) = w0 at *
  refine (KO.out _).mono ?_
  rintro e z1 ⟨A1, n1, c1, rfl, L1, B1⟩
  have S := (S.next B1).put L1
  clear L1 B1 KO
  go_wp2_with fail
  refine (KT.out _).mono ?_
  rintro e z2 ⟨A2, n2, c2, rfl, L1, B1⟩
  have S := (S.next B1).put L1
  clear L1 B1 KT
  go_wp2_with fail
  refine (reduce3_any S.lie.2.1 S.lie.1 LM.out LD.out D0.out).mono ?_
  rintro e z9 ⟨A8, n8, c8, A9, n9, c9, rfl, L8, L9, B9⟩
  have S := ((S.next B9).put L8).put L9
  clear L8 L9 B9 LM LD D0
  obtain ⟨⟨r0, r1, q0, q1, rz⟩, -⟩ := S.cel
  go_wp2_with fail
  go_light
  exact bodyPost_ret (v := .agg #[.slice A8 n8 c8, .slice A9 n9 c9]) (by simp [results, Tryd.results58, go_sem, r0, r1]) rfl ⟨_, _, _, _, _, _, rfl, S.lie.2.1.put2 r0 r1 _ _, S.lie.1.put2 r0 r1 _ _, (S.bl.setCell (by simp only []; omega) _).setCell (by simp only []; omega) _⟩

set_option maxHeartbeats 4000000 in
set_option maxRecDepth 100000 in
theorem of4_low0 {x b f M D : Nat} (h : Bp x b 0 f) (hM : (f : Int) = (M : Int)) (hD : (1074 : Int) = (D : Int)) (m0 : ((M : Int) == 0) = false) (lM : ln M ≤ 64) (wM : M < 18446744073709551616) (w : World) : Calls Tryd.prog 58 #[.float .f64 x] w fun e w' => RetR (M / Nat.gcd M (pw D)) (pw D / Nat.gcd M (pw D)) w e w' := by
  have e1 := h.md; have e2 := h.mq; have e3 := h.mr; have e4 := h.fl; have e5 := h.el
  have d1 : D ≤ 1075 := by omega
  have KO := Lib.hid (fun W => refOf_any M wM W)
  have KT := Lib.hid (fun W => two_any D (by omega) W)
  have LM := Lib.hid lM
  have LD : Hid (ln (pw D) ≤ 64) := Nat.le_trans (ln_pw (k := 34) (by omega)) (by decide)
  have D0 : Hid (pw D ≠ 0) := Nat.ne_of_gt (pw_pos D)
  have S := (Fs.start w).box (.slice none 0 0) (.slice none 0 0)
  obtain rfl : f = M := by omega
  clear h lM wM d1 hM
  go_enter Tryd.func58, Tryd.ntmps58
  go_wp2_with (simp only [fbits x])
  generalize w.alloc (.cells #[.slice none 0 0, .slice none 0 0] 50) = w0 at *
  refine (KO.out _).mono ?_
  rintro e z1 ⟨A1, n1, c1, rfl, L1, B1⟩
  have S := (S.next B1).put L1
  clear L1 B1 KO
  go_wp2_with fail
  refine (KT.out _).mono ?_
  rintro e z2 ⟨A2, n2, c2, rfl, L1, B1⟩
  have S := (S.next B1).put L1
  clear L1 B1 KT
  go_wp2_with fail
  refine (reduce3_any S.lie.2.1 S.lie.1 LM.out LD.out D0.out).mono ?_
  rintro e z9 ⟨A8, n8, c8, A9, n9, c9, rfl, L8, L9, B9⟩
  have S := ((S.next B9).put L8).put L9
  clear L8 L9 B9 LM LD D0
  obtain ⟨⟨r0, r1, q0, q1, rz⟩, -⟩ := S.cel
  go_wp2_with fail
  go_light
  exact bodyPost_ret (v := .agg #[.slice A8 n8 c8, .slice A9 n9 c9]) (by simp [results, Tryd.results58, go_sem, r0, r1]) rfl ⟨_, _, _, _, _, _, rfl, S.lie.2.1.put2 r0 r1 _ _, S.lie.1.put2 r0 r1 _ _, (S.bl.setCell (by simp only []; omega) _).setCell (by simp only []; omega) _⟩

set_option maxHeartbeats 4000000 in
set_option maxRecDepth 100000 in
theorem of4_high {x b e f M D : Nat} (h : Bp x b e f) (e0 : ((e : Int) == 0) = false) (lt : ¬ (e : Int) < 1075) (hM : (f : Int) + 4503599627370496 = (M : Int)) (hD : (e : Int) - 1075 = (D : Int)) (m0 : ((M : Int) == 0) = false) (lM : ln M ≤ 64) (wM : M < 18446744073709551616) (w : World) : Calls Tryd.prog 58 #[.float .f64 x] w fun e w' => RetR (M * pw D) 1 w e w' := by
  have e1 := h.md; have e2 := h.mq; have e3 := h.mr; have e4 := h.fl; have e5 := h.el
  have d1 : D ≤ 971 := by omega
  have lt2 : (1075 : Int) ≤ e := by omega
  have dn : (0 : Int) ≤ D := by omega
  have KO := Lib.hid (fun W => refOf_any M wM W)
  have KT := Lib.hid (fun W => two_any D (by omega) W)
  have LM : Hid (ln M ≤ 1000) := Nat.le_trans lM (by decide)
  have LD : Hid (ln (pw D) ≤ 1000) := Nat.le_trans (ln_pw (k := 34) (by omega)) (by decide)
  have S := (Fs.start w).box (.slice none 0 0) (.slice none 0 0)
  clear h lM wM d1 lt
  go_enter Tryd.func58, Tryd.ntmps58
  go_wp2_with (simp only [fbits x])
  generalize w.alloc (.cells #[.slice none 0 0, .slice none 0 0] 50) = w0 at *
  refine (KO.out _).mono ?_
  rintro e z1 ⟨A1, n1, c1, rfl, L1, B1⟩
  have S := (S.next B1).put L1
  clear L1 B1 KO
  go_wp2_with fail
  refine (KT.out _).mono ?_
  rintro e z2 ⟨A2, n2, c2, rfl, L1, B1⟩
  have S := (S.next B1).put L1
  clear L1 B1 KT
  go_wp2_with fail
  refine (rmulL S.lie.2.1 S.lie.1 LM.out LD.out).mono ?_
  rintro e z9 ⟨A8, n8, c8, rfl, L8, B9⟩
  have S := (S.next B9).put L8
  have L9 := lim_1 z9
  have S := (S.alloc (.cells #[.int .u32 1] 37)).put L9
  obtain ⟨⟨r0, r1, q0, q1, rz⟩, -⟩ := S.cel
  go_wp2_with fail
  go_light
  exact bodyPost_ret (v := .agg #[.slice A8 n8 c8, .slice (some ⟨z9.heap.size, 0, none⟩) 1 1]) (by simp [results, Tryd.results58, go_sem, r0, r1]) rfl ⟨_, _, _, _, _, _, rfl, S.lie.2.1.put2 r0 r1 _ _, S.lie.1.put2 r0 r1 _ _, (S.bl.setCell (by simp only []; omega) _).setCell (by simp only []; omega) _⟩
theorem m_word {M : Nat} (h : M < 9007199254740992) : ln M ≤ 64 ∧ M < 18446744073709551616 := ⟨Nat.le_trans (ln_le (k := 2) (by rw [B_eq]; omega)) (by decide), by omega⟩
theorem red_parts {x y a b : Nat} (h : red x y = (a, b, 0)) : x / Nat.gcd x y = a ∧ y / Nat.gcd x y = b := by
  unfold red at h
  injection h with h1 h2
  injection h2 with h2 h3
  exact ⟨h1, h2⟩
/-- samphireref04.Of: the fraction of a float64 that is a number (its sign apart). -/
theorem of4_any {x b : Nat} (h : x % 9223372036854775808 = b) (lt : b < 9218868437227405312) : ∃ X Y, Of1 b X Y ∧ ∀ w, Calls Tryd.prog 58 #[.float .f64 x] w fun e w' => RetR X Y w e w' := by
  have k := bp_mk h lt
  have fl := k.fl; have el := k.el
  by_cases e0 : b / 4503599627370496 = 0
  · rw [e0] at k
    by_cases f0 : b % 4503599627370496 = 0
    · rw [f0] at k
      exact ⟨0, 1, of1_zero (by rw [mant_low e0, f0]), of4_zero k⟩
    · obtain ⟨X, Y, hr, ho⟩ := of1_low (b := b) (by rw [ex_low e0]; decide)
      rw [mant_low e0, ex_low e0] at hr
      obtain ⟨q1, q2⟩ := red_parts hr
      obtain ⟨m1, m2⟩ := m_word (M := b % 4503599627370496) (by omega)
      refine ⟨X, Y, ho, fun w => ?_⟩
      rw [← q1, ← q2]
      exact of4_low0 (D := 1074) k rfl rfl (by simp; omega) m1 m2 w
  · have i0 : (((b / 4503599627370496 : Nat) : Int) == 0) = false := by simp; omega
    obtain ⟨m1, m2⟩ := m_word (M := b % 4503599627370496 + 4503599627370496) (by omega)
    have j0 : (((b % 4503599627370496 + 4503599627370496 : Nat) : Int) == 0) = false := by simp; omega
    by_cases lo : b / 4503599627370496 < 1075
    · obtain ⟨X, Y, hr, ho⟩ := of1_low (b := b) (by rw [ex_high e0]; exact lo)
      rw [mant_high e0, ex_high e0] at hr
      obtain ⟨q1, q2⟩ := red_parts hr
      refine ⟨X, Y, ho, fun w => ?_⟩
      rw [← q1, ← q2]
      exact of4_lowN k i0 (by omega) (by omega) (by omega) j0 m1 m2 w
    · have := of1_high lt (by rw [ex_high e0]; omega)
      rw [mant_high e0, ex_high e0] at this
      exact ⟨_, _, this, fun w => of4_high k i0 (by omega) (by omega) (by omega) j0 m1 m2 w⟩
end Go.Proofs.YtdnikdocfbbkkaaDoor
namespace Go.Proofs.YtdnikdocfbbkkaaDoor
open Go.RowKit
set_option linter.unusedVariables false
set_option linter.unusedSimpArgs false

set_option maxRecDepth 100000 in
theorem inf_call (w : World) : Calls Tryd.prog 62 #[.int .i64 1] w fun e w' => e = .returned (.float .f64 9218868437227405312) ∧ w = w' := by
  have F : ∀ W : World, (callFunc 101 #[.int .u64 9218868437227405312]).run Tryd.prog W = .ok (.value (.float .f64 9218868437227405312)) W := fun W => ffrom 9218868437227405312 W
  go_enter Tryd.func62, Tryd.ntmps62
  go_wp2_with (simp only [F])
  go_ret
  exact ⟨rfl, rfl⟩
set_option maxHeartbeats 4000000 in
set_option maxRecDepth 100000 in
theorem rounded_inf {D : Nat} {x u : Int} (h1 : -3000 ≤ x) (h2 : x ≤ 3000) (hu : max (x + 2) (-1074) = u) (c : 971 < u) (w : World) : Calls Tryd.prog 98 #[.int .u64 (D : Int), .int .i64 x] w fun e w' => e = .returned (.float .f64 9218868437227405312) ∧ w = w' := by
  have K := Lib.hid inf_call
  go_enter Tryd.func98, Tryd.ntmps98
  go_wp2_with fail
  refine (K.out _).mono ?_
  rintro e w' ⟨rfl, rfl⟩
  go_wp2_with fail
  go_ret
  exact ⟨rfl, rfl⟩
theorem sh_half {n : Nat} (n1 : 2 ≤ n) (n2 : n ≤ 63) : IntKind.u64.wrap ((2 : Int) ^ (n - 1)) = ((pw (n - 1) : Nat) : Int) ∧ IntKind.u64.wrap (IntKind.u64.wrap ((2 : Int) ^ n) - 1) = ((pw n - 1 : Nat) : Int) ∧ pw n = 2 * pw (n - 1) ∧ pw n ≤ 9223372036854775808 := by
  have e : ∀ k, k ≤ 63 → IntKind.u64.wrap ((2 : Int) ^ k) = ((pw k : Nat) : Int) ∧ pw k ≤ 9223372036854775808 := by
    intro k hk
    have l : pw k ≤ 9223372036854775808 := by rw [pw_eq]; exact Nat.pow_le_pow_right (j := 63) (by decide) hk
    have z : ((2 : Int) ^ k) = ((pw k : Nat) : Int) := by rw [pw_eq, Int.natCast_pow]; rfl
    rw [z, IntKind.wrap_u64]
    generalize pw k = y at *
    exact ⟨by omega, l⟩
  obtain ⟨a1, a2⟩ := e n n2
  obtain ⟨b1, b2⟩ := e (n - 1) (by omega)
  have p0 := pw_pos n
  refine ⟨b1, ?_, ?_, a2⟩
  · rw [a1, IntKind.wrap_u64]
    generalize pw n = y at *
    omega
  · obtain ⟨j, rfl⟩ : ∃ j, n = j + 1 := ⟨n - 1, by omega⟩
    rw [pw_succ, Nat.add_sub_cancel, Nat.mul_comm]
theorem sh_and {D n : Nat} (hD : D < 36028797018963968) (h : pw n ≤ 9223372036854775808) : bits BinOp.and IntKind.u64 (D : Int) ((pw n - 1 : Nat) : Int) = ((D % pw n : Nat) : Int) := by
  rw [u64_and_nat _ _ (by omega) (by omega), pw_eq, Nat.and_two_pow_sub_one_eq_mod]
theorem sh_div (D n : Nat) : (D : Int) / 2 ^ n = ((D / pw n : Nat) : Int) := by
  rw [pw_eq, Int.natCast_ediv, Int.natCast_pow]; rfl
set_option maxHeartbeats 4000000 in
set_option maxRecDepth 100000 in
theorem rounded_fin {D n t : Nat} {x u : Int} (h1 : -3000 ≤ x) (h2 : x ≤ 3000) (hu : max (x + 2) (-1074) = u) (c : u ≤ 971) (hn : min (u - x) 63 = (n : Int)) (ht : u + 1074 = (t : Int)) (hD : D < 36028797018963968) {K R H k : Nat} (hK : D / pw n = K) (hR : D % pw n = R) (hH : pw (n - 1) = H)
    (up : (H < R ∧ k = K + 1) ∨ (R = H ∧ K % 2 = 1 ∧ k = K + 1) ∨ (R = H ∧ K % 2 = 0 ∧ k = K) ∨ (R < H ∧ k = K)) (w : World) : Calls Tryd.prog 98 #[.int .u64 (D : Int), .int .i64 x] w fun e w' => e = .returned (.float .f64 (t * 4503599627370496 + k)) ∧ Below w.heap.size w w' := by
  have c' : ¬ 971 < u := by omega
  have n1 : (2 : Int) ≤ n := by omega
  have n2 : (n : Int) ≤ 63 := by omega
  have n0 : (0 : Int) ≤ n := by omega
  have n64 : (n : Int) < 64 := by omega
  obtain ⟨e1, e2, e3, e4⟩ := sh_half (n := n) (by omega) (by omega)
  have E1 : Hid (IntKind.u64.wrap ((2 : Int) ^ (n - 1)) = (H : Int)) := by unfold Hid; rw [e1, hH]
  have E2 : Hid (bits BinOp.and IntKind.u64 (D : Int) (IntKind.u64.wrap (IntKind.u64.wrap ((2 : Int) ^ n) - 1)) = (R : Int)) := by unfold Hid; rw [e2, sh_and hD e4, hR]
  have E3 : Hid ((D : Int) / 2 ^ n = (K : Int)) := by unfold Hid; rw [sh_div, hK]
  have K1 : K < 36028797018963968 := by rw [← hK]; exact Nat.lt_of_le_of_lt (Nat.div_le_self _ _) hD
  have R1 : R < 36028797018963968 := by rw [← hR]; exact Nat.lt_of_le_of_lt (Nat.mod_le _ _) hD
  have t1 : (t : Int) ≤ 2045 := by omega
  have t0 : (0 : Int) ≤ t := by omega
  have K2 : (K : Int) < 36028797018963968 := by omega
  clear e1 e2 e3 e4 hK hR hH hD
  go_enter Tryd.func98, Tryd.ntmps98
  go_upto_region 5 with fail
  go_cut [7, 8, 9] (fun s7 s8 s9 wx => s7 = .int .u64 (K : Int) ∧ s8 = .int .u64 (R : Int) ∧ s9 = .int .u64 (H : Int) ∧ Below w.heap.size w wx)
  case first =>
    go_region
    go_wp2_with fail
    go_meet
    go_light
    exact ⟨by rw [E3.out], by rw [E2.out], by rw [E1.out], (Below.refl _ _).drew⟩
  case rest =>
    obtain ⟨rfl, rfl, rfl, B⟩ := hcut
    clear E1 E2 E3
    rcases up with ⟨g1, rfl⟩ | ⟨rfl, g2, rfl⟩ | ⟨rfl, g2, rfl⟩ | ⟨g1, rfl⟩
    · have g : (H : Int) < R := by omega
      have F : ∀ W : World, (callFunc 101 #[.int .u64 ((t : Int) * 4503599627370496 + ((K : Int) + 1))]).run Tryd.prog W = .ok (.value (.float .f64 (t * 4503599627370496 + (K + 1)))) W := fun W => ffrom (t * 4503599627370496 + (K + 1)) W
      go_wp2_with (simp only [F])
      go_ret
      exact ⟨rfl, B⟩
    · have g : ¬ (R : Int) < R := by omega
      have g3 : (K : Int).tmod 2 = 1 := (Int.ofNat_tmod K 2).symm.trans (by rw [g2]; rfl)
      have F : ∀ W : World, (callFunc 101 #[.int .u64 ((t : Int) * 4503599627370496 + ((K : Int) + 1))]).run Tryd.prog W = .ok (.value (.float .f64 (t * 4503599627370496 + (K + 1)))) W := fun W => ffrom (t * 4503599627370496 + (K + 1)) W
      go_wp2_with (simp only [F])
      go_ret
      exact ⟨rfl, B⟩
    · have g : ¬ (R : Int) < R := by omega
      have g3 : (k : Int).tmod 2 = 0 := (Int.ofNat_tmod k 2).symm.trans (by rw [g2]; rfl)
      have F : ∀ W : World, (callFunc 101 #[.int .u64 ((t : Int) * 4503599627370496 + (k : Int))]).run Tryd.prog W = .ok (.value (.float .f64 (t * 4503599627370496 + k))) W := fun W => ffrom (t * 4503599627370496 + k) W
      go_wp2_with (simp only [F])
      go_ret
      exact ⟨rfl, B⟩
    · have g : ¬ (H : Int) < R := by omega
      have g3 : ((R : Int) == (H : Int)) = false := by simp; omega
      have F : ∀ W : World, (callFunc 101 #[.int .u64 ((t : Int) * 4503599627370496 + (k : Int))]).run Tryd.prog W = .ok (.value (.float .f64 (t * 4503599627370496 + k))) W := fun W => ffrom (t * 4503599627370496 + k) W
      go_wp2_with (simp only [F])
      go_ret
      exact ⟨rfl, B⟩
theorem half_get {D h : Nat} (h0 : 0 < h) : ∃ k, (D < (2 * k + 1) * h ∨ (D = (2 * k + 1) * h ∧ k % 2 = 0)) ∧ (k ≠ 0 → (2 * k - 1) * h < D ∨ ((2 * k - 1) * h = D ∧ k % 2 = 0)) ∧ D / (2 * h) ≤ k ∧ k ≤ D / (2 * h) + 1 ∧
    ((h < D % (2 * h) ∧ k = D / (2 * h) + 1) ∨ (D % (2 * h) = h ∧ D / (2 * h) % 2 = 1 ∧ k = D / (2 * h) + 1) ∨ (D % (2 * h) = h ∧ D / (2 * h) % 2 = 0 ∧ k = D / (2 * h)) ∨ (D % (2 * h) < h ∧ k = D / (2 * h))) := by
  by_cases c : upB D h
  · refine ⟨D / (2 * h) + 1, (half_up h0 c).1, (half_up h0 c).2, Nat.le_succ _, Nat.le_refl _, ?_⟩
    rcases c with c | ⟨c, c2⟩
    · exact Or.inl ⟨c, rfl⟩
    · exact Or.inr (Or.inl ⟨c, c2, rfl⟩)
  · refine ⟨D / (2 * h), (half_no h0 c).1, (half_no h0 c).2, Nat.le_refl _, Nat.le_succ _, ?_⟩
    unfold upB at c
    generalize D % (2 * h) = r at *
    generalize D / (2 * h) = k at *
    rcases Nat.lt_trichotomy r h with z | z | z
    · exact Or.inr (Or.inr (Or.inr ⟨z, rfl⟩))
    · exact Or.inr (Or.inr (Or.inl ⟨z, by omega, rfl⟩))
    · exact absurd (Or.inl z) c
/-- approx.rounded, of what leading tells. -/
theorem rounded_any {p q D : Nat} {x : Int} (L : Led p q D x) (q0 : q ≠ 0) (w : World) : Calls Tryd.prog 98 #[.int .u64 (D : Int), .int .i64 x] w fun e w' => ∃ b, Fl p q b ∧ e = .returned (.float .f64 b) ∧ Below w.heap.size w w' := by
  obtain ⟨D1, D2⟩ := L.big
  have x1 := L.xl; have x2 := L.xh
  obtain ⟨u, hu⟩ : ∃ u : Int, max (x + 2) (-1074) = u := ⟨_, rfl⟩
  obtain ⟨t, ht⟩ : ∃ t : Nat, u + 1074 = (t : Int) := ⟨(u + 1074).toNat, by omega⟩
  obtain ⟨n, hn⟩ : ∃ n : Nat, u - x = (n : Int) := ⟨(u - x).toNat, by omega⟩
  obtain ⟨k, k1, k2, k3, k4, k5⟩ := half_get (D := D) (pw_pos (n - 1))
  have F := L.fl q0 hu.symm hn ht k1 k2
  have n2 : 2 ≤ n := by omega
  have e2 : 2 * pw (n - 1) = pw n := by
    obtain ⟨j, rfl⟩ : ∃ j, n = j + 1 := ⟨n - 1, by omega⟩
    rw [pw_succ, Nat.add_sub_cancel, Nat.mul_comm]
  rw [e2] at k3 k4 k5
  have p4 : pw 2 = 4 := by rw [pw_eq]
  by_cases c : 971 < u
  · refine (rounded_inf (by omega) (by omega) hu c w).mono ?_
    rintro e w' ⟨rfl, rfl⟩
    refine ⟨_, F, ?_, Below.refl _ _⟩
    obtain rfl : n = 2 := by omega
    rw [p4] at k3
    rw [Nat.min_eq_right (by omega)]
  · have kk : k ≤ 9007199254740992 := by
      have h4 : D / pw n ≤ D / 4 := by
        refine Nat.div_le_div_left ?_ (by decide)
        rw [← p4, pw_eq, pw_eq]
        exact Nat.pow_le_pow_right (by decide) n2
      omega
    have tt : t ≤ 2045 := by omega
    rw [Nat.min_eq_left (by omega)] at F
    by_cases z : n ≤ 63
    · refine (rounded_fin (n := n) (by omega) (by omega) hu (by omega) (by omega) ht D2 rfl rfl rfl k5 w).mono ?_
      rintro e w' ⟨rfl, B⟩
      exact ⟨_, F, rfl, B⟩
    · have b62 : 36028797018963968 ≤ pw 62 := by rw [pw_eq]; decide
      have b63 : pw 62 < pw 63 := by rw [pw_eq, pw_eq]; decide
      have bn : pw 63 ≤ pw n := by rw [pw_eq, pw_eq]; exact Nat.pow_le_pow_right (by decide) (by omega)
      have bm : pw 63 ≤ pw (n - 1) := by rw [pw_eq, pw_eq]; exact Nat.pow_le_pow_right (by decide) (by omega)
      have k0 : k = 0 := by
        have h0 : D / pw n = 0 := Nat.div_eq_of_lt (by omega)
        have h1 : D % pw n = D := Nat.mod_eq_of_lt (by omega)
        rw [h0, h1] at k5
        omega
      refine (rounded_fin (n := 63) (k := 0) (by omega) (by omega) hu (by omega) (by omega) ht D2 (Nat.div_eq_of_lt (by omega)) (Nat.mod_eq_of_lt (by omega)) rfl (Or.inr (Or.inr (Or.inr ⟨?_, rfl⟩))) w).mono ?_
      · rw [show 63 - 1 = 62 by decide]; omega
      · rintro e w' ⟨rfl, B⟩
        rw [k0] at F
        exact ⟨_, F, rfl, B⟩
theorem fl_zero0 {q : Nat} (q0 : q ≠ 0) : Fl 0 q 0 := by
  refine ⟨by decide, fun _ => Or.inl ?_, fun c hc => absurd hc (Nat.not_lt_zero c)⟩
  have := fv_lt (a := 0) (b := 0 + 1) (by decide)
  rw [Nat.zero_mul]
  exact Nat.mul_pos (Nat.pos_of_ne_zero q0) (by omega)
set_option maxHeartbeats 4000000 in
set_option maxRecDepth 100000 in
theorem float_yes {A A' : Option Addr} {n c n' c' p q : Nat} {w : World} (ha : Lim w A n c (limbs p)) (hb : Lim w A' n' c' (limbs q)) (f : Fq p q) (p0 : p ≠ 0) : Calls Tryd.prog 53 #[.agg #[.slice A n c, .slice A' n' c']] w fun e w' => ∃ b, Fl p q b ∧ e = .returned (.tuple #[.float .f64 b, .int .i64 0]) ∧ Below w.heap.size w w' := by
  have hl := ha.len
  rw [limbs_length] at hl
  have n0 : ((n : Int) == 0) = false := by have := ln_pos p0; simp; omega
  have S := ((Fs.start w).put ha).put hb |>.box (.slice A n c) (.slice A' n' c')
  have FF := Lib.hid f; have P0 := Lib.hid p0
  clear ha hb hl f p0
  go_enter Tryd.func53, Tryd.ntmps53
  go_wp2_with fail
  generalize w.alloc (.cells #[.slice A n c, .slice A' n' c'] 50) = w0 at *
  generalize w.heap.size = b0 at *
  have K := ratRight_any S.lie.2.1 S.lie.1
  rw [frB_yes FF.out.fr] at K
  refine K.mono ?_
  clear K
  rintro e w1 ⟨rfl, B1⟩
  have S := S.next B1
  clear B1
  obtain ⟨⟨r0, r1, -⟩, -⟩ := S.cel
  go_wp2_with fail
  refine (leading_any S.lie.2.1 S.lie.1 FF.out P0.out).mono ?_
  rintro e w2 ⟨D, x, LL, rfl, B1⟩
  have S := S.next B1
  have LL := Lib.hid LL
  clear B1 r0 r1
  go_wp2_with fail
  refine (rounded_any LL.out FF.out.q0 _).mono ?_
  rintro e w3 ⟨b, fb, rfl, B1⟩
  have S := S.next B1
  have fb := Lib.hid fb
  clear B1
  go_wp2_with fail
  go_ret2
  exact ⟨b, fb.out, rfl, S.bl⟩
end Go.Proofs.YtdnikdocfbbkkaaDoor
namespace Go.Proofs.YtdnikdocfbbkkaaDoor
set_option linter.unusedVariables false

/-- The model's cut, half to even. -/
theorem cut_even (neg : Bool) (n drop : Nat) : ∃ k, Ieee.Toward.even.cut neg n drop = k ∧ (2 * n < (2 * k + 1) * pw drop ∨ (2 * n = (2 * k + 1) * pw drop ∧ k % 2 = 0)) ∧ (k ≠ 0 → (2 * k - 1) * pw drop < 2 * n ∨ ((2 * k - 1) * pw drop = 2 * n ∧ k % 2 = 0)) := by
  unfold Ieee.Toward.cut
  simp only [Nat.shiftLeft_eq, Nat.one_mul]
  by_cases c : drop ≤ n.log2 + 2
  · rw [Nat.min_eq_left c, ← pw_eq]
    have g0 := pw_pos drop
    have hn := Nat.div_add_mod n (pw drop)
    have hr := Nat.mod_lt n g0
    generalize pw drop = g at *
    generalize n / g = lo at *
    generalize n % g = r at *
    refine ⟨_, rfl, ?_⟩
    have e1 : (2 * (lo + 1) + 1) * g = 2 * (g * lo) + 3 * g := by grind
    have e2 : (2 * (lo + 1) - 1) * g = 2 * (g * lo) + g := by rw [show 2 * (lo + 1) - 1 = 2 * lo + 1 by omega]; grind
    have e3 : (2 * lo + 1) * g = 2 * (g * lo) + g := by grind
    by_cases m1 : g < 2 * r
    · simp only [m1, decide_true, Bool.true_or, Bool.toNat_true]
      refine ⟨Or.inl (by omega), fun _ => Or.inl (by omega)⟩
    · by_cases m2 : g = 2 * r ∧ lo % 2 = 1
      · have m3 : (g == 2 * r && lo % 2 == 1) = true := by simp [m2.1, m2.2]
        simp only [m3, Bool.or_true, Bool.toNat_true]
        refine ⟨Or.inl (by omega), fun _ => Or.inr ⟨by omega, by omega⟩⟩
      · have m3 : (g == 2 * r && lo % 2 == 1) = false := by
          by_cases x : g = 2 * r
          · have : lo % 2 ≠ 1 := fun y => m2 ⟨x, y⟩
            simp [this]
          · simp [x]
        simp only [m1, decide_false, m3, Bool.or_false, Bool.toNat_false, Nat.add_zero]
        refine ⟨?_, fun z => ?_⟩
        · by_cases x : g = 2 * r
          · exact Or.inr ⟨by omega, by have : lo % 2 ≠ 1 := fun y => m2 ⟨x, y⟩; omega⟩
          · exact Or.inl (by omega)
        · obtain ⟨j, rfl⟩ : ∃ j, lo = j + 1 := ⟨lo - 1, by omega⟩
          have e4 : (2 * (j + 1) - 1) * g = 2 * (g * j) + g := by rw [show 2 * (j + 1) - 1 = 2 * j + 1 by omega]; grind
          have e5 : g * (j + 1) = g * j + g := by grind
          exact Or.inl (by omega)
  · rw [Nat.min_eq_right (by omega), ← pw_eq]
    have hl : n < pw (n.log2 + 1) := by rw [pw_eq]; exact Nat.lt_log2_self
    have e : pw (n.log2 + 2) = pw (n.log2 + 1) * 2 := pw_succ _
    have d1 : n / pw (n.log2 + 2) = 0 := Nat.div_eq_of_lt (by omega)
    have d2 : n % pw (n.log2 + 2) = n := Nat.mod_eq_of_lt (by omega)
    have f1 : ¬ pw (n.log2 + 2) < 2 * n := by omega
    have f2 : (pw (n.log2 + 2) == 2 * n) = false := by simp; omega
    simp only [d1, d2, f1, f2, decide_false, Bool.false_and, Bool.or_false, Bool.toNat_false, Nat.add_zero]
    refine ⟨0, rfl, Or.inl ?_, fun z => absurd rfl z⟩
    obtain ⟨j, hj⟩ : ∃ j, drop = n.log2 + 2 + j := ⟨drop - (n.log2 + 2), by omega⟩
    have : pw (n.log2 + 2) ≤ pw drop := by rw [hj, pw_add (n.log2 + 2) j]; exact Nat.le_mul_of_pos_right _ (pw_pos j)
    omega
theorem fl_zero {q : Nat} (q0 : q ≠ 0) : Fl 0 q 0 := by
  refine ⟨by omega, fun _ => Or.inl ?_, fun c h => absurd h (Nat.not_lt_zero _)⟩
  rw [Nat.zero_mul, fv_succ]
  have := ulp_pos 0
  exact Nat.mul_pos (Nat.pos_of_ne_zero q0) (by omega)
/-- The model's nearest word is the nearest float64. -/
theorem nearest_fl {mag p q a b : Nat} {place : Int} (q0 : q ≠ 0) (hp : place = (b : Int) - a) (h : p * pw a = q * (mag * pw b)) : Fl p q (Ieee.double.nearest false mag place) := by
  have A0 := pw_pos a
  unfold Ieee.Format.nearest
  by_cases z : mag = 0
  · rw [if_pos z]
    subst z
    rw [Nat.zero_mul, Nat.mul_zero] at h
    obtain rfl : p = 0 := by
      rcases Nat.mul_eq_zero.1 h with h | h
      · exact h
      · omega
    exact fl_zero q0
  · rw [if_neg z]
    have lp : Ieee.double.leastPlace = -1074 := by decide
    have fb : ((Ieee.double.fractionBits : Nat) : Int) = 52 := by decide
    have bn : Ieee.double.binade = 4503599627370496 := by decide
    have ir : Ieee.double.infRung = 9218868437227405312 := by decide
    simp only [lp, fb, bn, ir, Ieee.Format.word, Bool.false_eq_true, if_false]
    have l1 : pw mag.log2 ≤ mag := by rw [pw_eq]; exact Nat.log2_self_le z
    have l2 : mag < pw (mag.log2 + 1) := by rw [pw_eq]; exact Nat.lt_log2_self
    generalize mag.log2 = lg at *
    obtain ⟨last, hl⟩ : ∃ last, max (place + (lg : Int) - 52) (-1074) = last := ⟨_, rfl⟩
    rw [hl]
    have hl1 : place + lg - 52 ≤ last := by omega
    have hl2 : -1074 ≤ last := by omega
    have hl3 : last = place + lg - 52 ∨ last = -1074 := by omega
    rw [show last - -1074 = last + 1074 by omega]
    obtain ⟨s, hs⟩ : ∃ s, (place - last).toNat = s := ⟨_, rfl⟩
    obtain ⟨t, ht⟩ : ∃ t, (last - place).toNat = t := ⟨_, rfl⟩
    obtain ⟨d, hd⟩ : ∃ d, (last + 1074).toNat = d := ⟨_, rfl⟩
    rw [hs, ht, hd, Nat.shiftLeft_eq, ← pw_eq]
    obtain ⟨k, hk, up, dn⟩ := cut_even false (mag * pw s) t
    rw [hk]
    have P52 : (4503599627370496 : Nat) = pw 52 := by rw [pw_eq]
    have P53 : (9007199254740992 : Nat) = pw 53 := by rw [pw_eq]
    refine round_fl (n := mag * pw s) (t := t) q0 ?_ up dn ?_ ?_
    · refine Nat.eq_of_mul_eq_mul_right A0 ?_
      have e1 : p * pw 1074 * pw t * pw a = p * pw a * pw (1074 + t) := by rw [pw_add 1074 t]; generalize pw 1074 = u; generalize pw t = v; generalize pw a = x; grind
      have e2 : q * (mag * pw s * pw d) * pw a = q * mag * pw (s + d + a) := by rw [pw_add (s + d) a, pw_add s d]; generalize pw s = u; generalize pw d = v; generalize pw a = x; grind
      rw [e1, h, e2, show q * (mag * pw b) * pw (1074 + t) = q * mag * pw (b + (1074 + t)) by rw [pw_add b (1074 + t)]; generalize pw b = u; generalize pw (1074 + t) = v; grind]
      congr 2
      omega
    · by_cases d0 : d = 0
      · exact Or.inl d0
      · right
        rw [P52, ← pw_add]
        have e : 52 + t = lg + s := by omega
        rw [e, pw_add lg s]
        exact Nat.mul_le_mul_right _ l1
    · rw [P53, ← pw_add]
      obtain ⟨j, hj⟩ : ∃ j, 53 + t = lg + 1 + s + j := ⟨53 + t - (lg + 1 + s), by omega⟩
      rw [hj, pw_add (lg + 1 + s) j, pw_add (lg + 1) s]
      have h1 : mag * pw s < pw (lg + 1) * pw s := Nat.mul_lt_mul_of_pos_right l2 (pw_pos s)
      exact Nat.lt_of_lt_of_le h1 (Nat.le_mul_of_pos_right _ (pw_pos j))
end Go.Proofs.YtdnikdocfbbkkaaDoor
namespace Go.Proofs.YtdnikdocfbbkkaaDoor
set_option linter.unusedVariables false
set_option linter.unusedSimpArgs false

theorem d_sign : Ieee.double.signWeight = 9223372036854775808 := by decide
theorem d_binade : Ieee.double.binade = 4503599627370496 := by decide
theorem d_inf : Ieee.double.infRung = 9218868437227405312 := by decide
theorem d_least : Ieee.double.leastPlace = -1074 := by decide
theorem fv_mant (r : Nat) : fv r = mant r * pw (r / 4503599627370496 - 1) := by
  rw [fv_parts]
  by_cases h : r / 4503599627370496 = 0
  · rw [ex_low h, h]
  · rw [ex_high h]
/-- A number: its sign, what it is, and its place. -/
theorem read_fin {x r : Nat} (s : Bool) (hx : x = (if s then 9223372036854775808 else 0) + r) (hr : r < 9218868437227405312) : Ieee.double.read x = .number s (mant r) (-1074 + ((r / 4503599627370496 - 1 : Nat) : Int)) := by
  unfold Ieee.Format.read
  have e1 : (x / Ieee.double.signWeight % 2 == 1) = s := by
    rw [d_sign]
    cases s
    · simp at hx ⊢; omega
    · simp at hx ⊢; omega
  have e2 : x % Ieee.double.signWeight = r := by
    rw [d_sign]
    cases s
    · simp at hx; omega
    · simp at hx; omega
  simp only [e1, e2, d_binade, d_inf, d_least]
  by_cases h : r < 4503599627370496
  · rw [if_pos h, mant_low (by omega), show r / 4503599627370496 - 1 = 0 by omega, show r % 4503599627370496 = r by omega]
    rfl
  · rw [if_neg h, if_pos hr, mant_high (by omega), Nat.add_comm]
theorem read_inf {x : Nat} (s : Bool) (hx : x = (if s then 9223372036854775808 else 0) + 9218868437227405312) : Ieee.double.read x = .infinity s := by
  subst hx
  cases s <;> decide
theorem read_nan {x r : Nat} (s : Bool) (hx : x = (if s then 9223372036854775808 else 0) + r) (hr : 9218868437227405312 < r) (lt : r < 9223372036854775808) : ∃ t, Ieee.double.read x = .nan s t := by
  unfold Ieee.Format.read
  have e1 : (x / Ieee.double.signWeight % 2 == 1) = s := by
    rw [d_sign]
    cases s
    · simp at hx ⊢; omega
    · simp at hx ⊢; omega
  have e2 : x % Ieee.double.signWeight = r := by
    rw [d_sign]
    cases s
    · simp at hx; omega
    · simp at hx; omega
  simp only [e1, e2, d_binade, d_inf, d_least]
  rw [if_neg (by omega), if_neg (by omega), if_neg (by omega)]
  exact ⟨_, rfl⟩
/-- A word is a sign and the rest. -/
theorem word_parts {x : Nat} (h : x < 18446744073709551616) : ∃ (s : Bool) (r : Nat), x = (if s then 9223372036854775808 else 0) + r ∧ r < 9223372036854775808 := by
  by_cases k : x < 9223372036854775808
  · exact ⟨false, x, by simp, k⟩
  · exact ⟨true, x - 9223372036854775808, by simp; omega, by omega⟩
theorem cmp_scale (a b c : Nat) (h : 0 < c) : compare ((a * c : Nat) : Int) ((b * c : Nat) : Int) = compare a b := by
  rcases Nat.lt_trichotomy a b with k | k | k
  · have := Nat.mul_lt_mul_of_pos_right k h
    rw [Nat.compare_eq_lt.2 k]
    exact Int.compare_eq_lt.2 (by omega)
  · subst k
    rw [Nat.compare_eq_eq.2 rfl]
    exact Int.compare_eq_eq.2 rfl
  · have := Nat.mul_lt_mul_of_pos_right k h
    rw [Nat.compare_eq_gt.2 k]
    exact Int.compare_eq_gt.2 (by omega)
theorem cmp_fv (a b : Nat) : compare (fv a) (fv b) = compare a b := by
  rcases Nat.lt_trichotomy a b with k | k | k
  · rw [Nat.compare_eq_lt.2 k, Nat.compare_eq_lt.2 (fv_lt k)]
  · subst k; rw [Nat.compare_eq_eq.2 rfl, Nat.compare_eq_eq.2 rfl]
  · rw [Nat.compare_eq_gt.2 k, Nat.compare_eq_gt.2 (fv_lt k)]
theorem sig_false (m up : Nat) : Ieee.signed false m up = ((m * pw up : Nat) : Int) := by unfold Ieee.signed; simp [Nat.shiftLeft_eq, pw_eq]
theorem sig_true (m up : Nat) : Ieee.signed true m up = -((m * pw up : Nat) : Int) := by unfold Ieee.signed; simp [Nat.shiftLeft_eq, pw_eq]
/-- The order of two that are not below 0 is that of their bits. -/
theorem order_rung {a b : Nat} (ha : a ≤ 9218868437227405312) (hb : b ≤ 9218868437227405312) : Ieee.double.order a b = some (compare a b) := by
  unfold Ieee.Format.order
  by_cases ia : a = 9218868437227405312
  · have ra := read_inf (x := a) false (by simp [ia])
    by_cases ib : b = 9218868437227405312
    · have rb := read_inf (x := b) false (by simp [ib])
      rw [ra, rb, ia, ib]; decide
    · have rb := read_fin (x := b) (r := b) false (by simp) (by omega)
      rw [ra, rb, Nat.compare_eq_gt.2 (by omega)]
      rfl
  · have ra := read_fin (x := a) (r := a) false (by simp) (by omega)
    by_cases ib : b = 9218868437227405312
    · have rb := read_inf (x := b) false (by simp [ib])
      rw [ra, rb, Nat.compare_eq_lt.2 (by omega)]
      rfl
    · have rb := read_fin (x := b) (r := b) false (by simp) (by omega)
      rw [ra, rb]
      simp only [Ieee.Datum.order, sig_false]
      have fa := fv_mant a; have fb := fv_mant b
      generalize a / 4503599627370496 - 1 = i at *
      generalize b / 4503599627370496 - 1 = j at *
      rw [← cmp_fv a b, fa, fb]
      congr 1
      by_cases le : i ≤ j
      · rw [show min (-1074 + (i : Int)) (-1074 + (j : Int)) = -1074 + i by omega, show (-1074 + (i : Int) - (-1074 + i)).toNat = 0 by omega, show (-1074 + (j : Int) - (-1074 + i)).toNat = j - i by omega, pw_zero, Nat.mul_one]
        have e : mant b * pw j = mant b * pw (j - i) * pw i := by rw [Nat.mul_assoc, ← pw_add]; congr 2; omega
        rw [e]
        have := cmp_scale (mant a) (mant b * pw (j - i)) 1 (by decide)
        rw [Nat.mul_one, Nat.mul_one] at this
        rw [this]
        rcases Nat.lt_trichotomy (mant a) (mant b * pw (j - i)) with k | k | k
        · rw [Nat.compare_eq_lt.2 k, Nat.compare_eq_lt.2 (Nat.mul_lt_mul_of_pos_right k (pw_pos i))]
        · rw [k, Nat.compare_eq_eq.2 rfl, Nat.compare_eq_eq.2 rfl]
        · rw [Nat.compare_eq_gt.2 k, Nat.compare_eq_gt.2 (Nat.mul_lt_mul_of_pos_right k (pw_pos i))]
      · rw [show min (-1074 + (i : Int)) (-1074 + (j : Int)) = -1074 + j by omega, show (-1074 + (j : Int) - (-1074 + j)).toNat = 0 by omega, show (-1074 + (i : Int) - (-1074 + j)).toNat = i - j by omega, pw_zero, Nat.mul_one]
        have e : mant a * pw i = mant a * pw (i - j) * pw j := by rw [Nat.mul_assoc, ← pw_add]; congr 2; omega
        rw [e]
        have := cmp_scale (mant a * pw (i - j)) (mant b) 1 (by decide)
        rw [Nat.mul_one, Nat.mul_one] at this
        rw [this]
        rcases Nat.lt_trichotomy (mant a * pw (i - j)) (mant b) with k | k | k
        · rw [Nat.compare_eq_lt.2 k, Nat.compare_eq_lt.2 (Nat.mul_lt_mul_of_pos_right k (pw_pos j))]
        · rw [k, Nat.compare_eq_eq.2 rfl, Nat.compare_eq_eq.2 rfl]
        · rw [Nat.compare_eq_gt.2 k, Nat.compare_eq_gt.2 (Nat.mul_lt_mul_of_pos_right k (pw_pos j))]
end Go.Proofs.YtdnikdocfbbkkaaDoor
