/- math.Nextafter, up and down, of a float64 that is not below 0; the neighbours of a float64, by layer 3. -/
import Derived.Test.YtdnikdocfbbkkaaDoorJ18
import Derived.Test.YtdnikdocfbbkkaaDoorJ19
import Derived.Test.YtdnikdocfbbkkaaDoorAG
namespace Go.Proofs.YtdnikdocfbbkkaaDoor
open Go.RowKit
set_option linter.unusedVariables false
set_option linter.unusedSimpArgs false

theorem ord_num {a b : Nat} (ha : a ≤ 9218868437227405312) (hb : b ≤ 9218868437227405312) : FloatKind.f64.format.order a b = some (compare a b) := by
  rw [show FloatKind.f64.format = Ieee.double from rfl, order_rung ha hb]
theorem isnan_no {b : Nat} (h : b ≤ 9218868437227405312) (w : World) : Calls Tryd.prog 102 #[.float .f64 b] w fun e w' => e = .returned (.bool false) ∧ w = w' :=
  isnan_call (by rw [ord_num h h, Nat.compare_eq_eq.2 rfl]; rfl) w
set_option maxRecDepth 100000 in
theorem next_zero (w : World) : Calls Tryd.prog 61 #[.float .f64 0, .float .f64 0] w fun e w' => e = .returned (.float .f64 0) ∧ w = w' := by
  have KN := Lib.hid (fun W => isnan_no (b := 0) (by decide) W)
  have i1 : (FloatKind.f64.format.order 0 0 == some .eq) = true := by decide
  go_enter Tryd.func61, Tryd.ntmps61
  go_wp2_with fail
  refine (KN.out _).mono ?_
  rintro e w' ⟨rfl, rfl⟩
  go_wp2_with fail
  refine (KN.out _).mono ?_
  rintro e w' ⟨rfl, rfl⟩
  go_wp2_with fail
  go_ret
  exact ⟨rfl, rfl⟩
set_option maxRecDepth 100000 in
theorem next_down {b : Nat} (h : b + 1 ≤ 9218868437227405312) (w : World) : Calls Tryd.prog 61 #[.float .f64 (b + 1), .float .f64 0] w fun e w' => e = .returned (.float .f64 b) ∧ w = w' := by
  have KN := Lib.hid (fun W => isnan_no h W)
  have KZ := Lib.hid (fun W => isnan_no (b := 0) (by decide) W)
  have F : ∀ W : World, (callFunc 54 #[.float .f64 (b + 1)]).run Tryd.prog W = .ok (.value (.int .u64 ((b + 1 : Nat) : Int))) W := fun W => fbits (b + 1) W
  have G : ∀ W : World, (callFunc 101 #[.int .u64 (b : Int)]).run Tryd.prog W = .ok (.value (.float .f64 b)) W := fun W => ffrom b W
  have i1 : (FloatKind.f64.format.order (b + 1) 0 == some .eq) = false := by rw [ord_num h (by decide), Nat.compare_eq_gt.2 (by omega)]; rfl
  have i2 : (FloatKind.f64.format.order 0 (b + 1) == some .gt) = false := by rw [ord_num (by decide) h, Nat.compare_eq_lt.2 (by omega)]; rfl
  have i3 : (FloatKind.f64.format.order (b + 1) 0 == some .gt) = true := by rw [ord_num h (by decide), Nat.compare_eq_gt.2 (by omega)]; rfl
  have E : IntKind.u64.wrap (((b + 1 : Nat) : Int) - 1) = (b : Int) := by
    rw [show (((b + 1 : Nat) : Int) - 1) = (b : Int) by omega]
    exact IntWalk.u64_in _ (by omega)
  clear h
  generalize b + 1 = c at *
  go_enter Tryd.func61, Tryd.ntmps61
  go_wp2_with fail
  refine (KN.out _).mono ?_
  rintro e w' ⟨rfl, rfl⟩
  go_wp2_with fail
  refine (KZ.out _).mono ?_
  rintro e w' ⟨rfl, rfl⟩
  go_wp2_with (first | simp only [F] | simp only [E, G])
  go_ret
  exact ⟨rfl, rfl⟩
set_option maxRecDepth 100000 in
theorem copysign_one (w : World) : Calls Tryd.prog 107 #[.float .f64 1, .float .f64 9218868437227405312] w fun e w' => e = .returned (.float .f64 1) ∧ w = w' := by
  have F : ∀ W : World, (callFunc 54 #[.float .f64 1]).run Tryd.prog W = .ok (.value (.int .u64 1)) W := fun W => fbits 1 W
  have F' : ∀ W : World, (callFunc 54 #[.float .f64 9218868437227405312]).run Tryd.prog W = .ok (.value (.int .u64 9218868437227405312)) W := fun W => fbits 9218868437227405312 W
  have G : ∀ W : World, (callFunc 101 #[.int .u64 1]).run Tryd.prog W = .ok (.value (.float .f64 1)) W := fun W => ffrom 1 W
  have e1 : bits BinOp.andNot IntKind.u64 1 9223372036854775808 = 1 := by decide
  have e2 : bits BinOp.and IntKind.u64 9218868437227405312 9223372036854775808 = 0 := by decide
  have e3 : bits BinOp.or IntKind.u64 1 0 = 1 := by decide
  go_enter Tryd.func107, Tryd.ntmps107
  go_wp2_with (first | simp only [F, F'] | simp only [e1, e2, e3, G])
  go_ret
  exact ⟨rfl, rfl⟩
set_option maxRecDepth 100000 in
theorem next_one (w : World) : Calls Tryd.prog 61 #[.float .f64 0, .float .f64 9218868437227405312] w fun e w' => e = .returned (.float .f64 1) ∧ w = w' := by
  have KN := Lib.hid (fun W => isnan_no (b := 0) (by decide) W)
  have KZ := Lib.hid (fun W => isnan_no (b := 9218868437227405312) (by decide) W)
  have G : ∀ W : World, (callFunc 101 #[.int .u64 1]).run Tryd.prog W = .ok (.value (.float .f64 1)) W := fun W => ffrom 1 W
  have i1 : (FloatKind.f64.format.order 0 9218868437227405312 == some .eq) = false := by rw [ord_num (by decide) (by decide), Nat.compare_eq_lt.2 (by omega)]; rfl
  have i2 : (FloatKind.f64.format.order 0 0 == some .eq) = true := by decide
  go_enter Tryd.func61, Tryd.ntmps61
  go_wp2_with fail
  refine (KN.out _).mono ?_
  rintro e w' ⟨rfl, rfl⟩
  go_wp2_with fail
  refine (KZ.out _).mono ?_
  rintro e w' ⟨rfl, rfl⟩
  go_wp2_with (simp only [G])
  refine (copysign_one _).mono ?_
  rintro e w' ⟨rfl, rfl⟩
  go_wp2_with fail
  go_ret
  exact ⟨rfl, rfl⟩
set_option maxRecDepth 100000 in
theorem next_up {b : Nat} (h0 : b ≠ 0) (h : b < 9218868437227405312) (w : World) : Calls Tryd.prog 61 #[.float .f64 b, .float .f64 9218868437227405312] w fun e w' => e = .returned (.float .f64 (b + 1)) ∧ w = w' := by
  have KN := Lib.hid (fun W => isnan_no (b := b) (by omega) W)
  have KZ := Lib.hid (fun W => isnan_no (b := 9218868437227405312) (by decide) W)
  have F : ∀ W : World, (callFunc 54 #[.float .f64 b]).run Tryd.prog W = .ok (.value (.int .u64 (b : Int))) W := fun W => fbits b W
  have G : ∀ W : World, (callFunc 101 #[.int .u64 ((b + 1 : Nat) : Int)]).run Tryd.prog W = .ok (.value (.float .f64 (b + 1))) W := fun W => ffrom (b + 1) W
  have i1 : (FloatKind.f64.format.order b 9218868437227405312 == some .eq) = false := by rw [ord_num (by omega) (by decide), Nat.compare_eq_lt.2 (by omega)]; rfl
  have i2 : (FloatKind.f64.format.order b 0 == some .eq) = false := by rw [ord_num (by omega) (by decide), Nat.compare_eq_gt.2 (by omega)]; rfl
  have i3 : (FloatKind.f64.format.order 9218868437227405312 b == some .gt) = true := by rw [ord_num (by decide) (by omega), Nat.compare_eq_gt.2 (by omega)]; rfl
  have i4 : (FloatKind.f64.format.order b 0 == some .gt) = true := by rw [ord_num (by omega) (by decide), Nat.compare_eq_gt.2 (by omega)]; rfl
  have E : IntKind.u64.wrap ((b : Int) + 1) = ((b + 1 : Nat) : Int) := by
    rw [show ((b : Int) + 1) = ((b + 1 : Nat) : Int) by omega]
    exact IntWalk.u64_in _ (by omega)
  clear h h0
  generalize b + 1 = c at *
  go_enter Tryd.func61, Tryd.ntmps61
  go_wp2_with fail
  refine (KN.out _).mono ?_
  rintro e w' ⟨rfl, rfl⟩
  go_wp2_with fail
  refine (KZ.out _).mono ?_
  rintro e w' ⟨rfl, rfl⟩
  go_wp2_with (first | simp only [F] | simp only [E, G])
  go_ret
  exact ⟨rfl, rfl⟩
/-- A neighbour, by layer 3. -/
def Nb (p q d1 d2 nb : Nat) : Prop := nb < 9218868437227405312 ∧ ∃ X Y c1 c2, Of1 nb X Y ∧ Fq c1 c2 ∧ (subR p q X Y = (c1, c2, 0) ∨ (subR p q X Y = (0, 0, 1) ∧ subR X Y p q = (c1, c2, 0))) ∧ cmpE c1 c2 d1 d2 = 0 ∧ 0 ≤ cmpN c1 c2 d1 d2
theorem of1_any {b : Nat} (h : b < 9218868437227405312) : ∃ X Y, Of1 b X Y := by
  obtain ⟨X, Y, o, -⟩ := of4_any (x := b) (b := b) (by omega) h
  exact ⟨X, Y, o⟩
/-- Both neighbours of a fraction's float64. -/
theorem near_all {p q b : Nat} (f : Fq p q) (lp : ln p ≤ 8) (lq : ln q ≤ 8) (h : Fl p q b) : b < 9218868437227405311 ∧ ∃ X Y d1 d2, Of1 b X Y ∧ errR p q X Y = (d1, d2, 0) ∧ Fq d1 d2 ∧ Nb p q d1 d2 (b - 1) ∧ Nb p q d1 d2 (b + 1) := by
  by_cases z : p = 0
  · subst z
    obtain rfl := fq_zero f
    obtain rfl := h.same (fl_zero (by decide))
    refine ⟨by decide, ?_⟩
    obtain ⟨X, Y, o⟩ := of1_any (b := 0) (by decide)
    obtain ⟨X', Y', o'⟩ := of1_any (b := 1) (by decide)
    obtain ⟨rfl, rfl⟩ := o.same (of1_zero (b := 0) (by rw [mant_zero]))
    obtain ⟨d1, d2, c1, c2, e1, e2, e3, e4, e5, e6⟩ := near_num (a := 0) (a' := 1) (x := 0) (y := 1) (x' := 33) (y' := 34) (M := 1) (N := 2) (M' := 34) (N' := 35) f o o' (by rw [ln_zero]; decide) ln_one (by rw [ln_zero]; decide) ln_one o'.lx o'.ly (by decide) (by decide) (by decide) (by decide) (by decide) (by decide) (by decide) (by decide) (by decide) (by decide) (by decide) (by decide) (near_up h (by decide))
    obtain ⟨d1', d2', c1', c2', e1', e2', e3', e4', e5', e6'⟩ := near_num (a := 0) (a' := 1) (x := 0) (y := 1) (x' := 0) (y' := 1) (M := 1) (N := 2) (M' := 1) (N' := 2) f o o (by rw [ln_zero]; decide) ln_one (by rw [ln_zero]; decide) ln_one (by rw [ln_zero]; decide) ln_one (by decide) (by decide) (by decide) (by decide) (by decide) (by decide) (by decide) (by decide) (by decide) (by decide) (by decide) (by decide) (Nat.le_refl _)
    have same : (d1, d2, (0 : Int)) = (d1', d2', 0) := e1.symm.trans e1'
    injection same with s1 s2
    injection s2 with s2 s3
    subst s1 s2
    exact ⟨0, 1, d1, d2, o, e1, e2, ⟨by decide, 0, 1, c1', c2', o, e3', e4', e5', e6'⟩, ⟨by decide, X', Y', c1, c2, o', e3, e4, e5, e6⟩⟩
  · have l1 := low_bits z f.q0 lq h
    have l2 := high_bits f.q0 lp h
    refine ⟨by omega, ?_⟩
    obtain ⟨g, rfl⟩ : ∃ g, b = g + 1 := ⟨b - 1, by omega⟩
    obtain ⟨X, Y, o⟩ := of1_any (b := g + 1) (by omega)
    obtain ⟨X', Y', o'⟩ := of1_any (b := g + 1 + 1) (by omega)
    obtain ⟨X'', Y'', o''⟩ := of1_any (b := g) (by omega)
    have s := o.short (by omega) (by omega)
    have s' := o'.short (by omega) (by omega)
    have s'' := o''.short (by omega) (by omega)
    obtain ⟨d1, d2, c1, c2, e1, e2, e3, e4, e5, e6⟩ := near_num (M := 18) (N := 18) (M' := 18) (N' := 18) f o o' lp lq s.1 s.2 s'.1 s'.2 (by decide) (by decide) (by decide) (by decide) (by decide) (by decide) (by decide) (by decide) (by decide) (by decide) (by decide) (by decide) (near_up h (by omega))
    obtain ⟨d1', d2', c1', c2', e1', e2', e3', e4', e5', e6'⟩ := near_num (M := 18) (N := 18) (M' := 18) (N' := 18) f o o'' lp lq s.1 s.2 s''.1 s''.2 (by decide) (by decide) (by decide) (by decide) (by decide) (by decide) (by decide) (by decide) (by decide) (by decide) (by decide) (by decide) (near_down h)
    have same : (d1, d2, (0 : Int)) = (d1', d2', 0) := e1.symm.trans e1'
    injection same with s1 s2
    injection s2 with s2 s3
    subst s1 s2
    exact ⟨X, Y, d1, d2, o, e1, e2, ⟨by omega, X'', Y'', c1', c2', o'', e3', e4', e5', e6'⟩, ⟨by omega, X', Y', c1, c2, o', e3, e4, e5, e6⟩⟩
end Go.Proofs.YtdnikdocfbbkkaaDoor
