/- The walk of the law ApproxExact, out of what is asked of approx's calls. -/
import Derived.Test.YtdnikdocfbbkkaaDoorJ19
namespace Go.Proofs.YtdnikdocfbbkkaaDoor.approxExact
open Go.RowKit
open Go.Proofs.YtdnikdocfbbkkaaDoor
set_option linter.unusedVariables false
set_option linter.unusedSimpArgs false

theorem lim0 (w : World) : Lim w none 0 0 (limbs 0) := by rw [limbs_zero]; exact Lim.none_ _ _ _ (by decide)
theorem f64_format : FloatKind.f64.format = Ieee.double := rfl
set_option maxHeartbeats 4000000 in
set_option maxRecDepth 100000 in
theorem yes (K : App) {x r : Nat} {s : Bool} (hx : x = (if s then 9223372036854775808 else 0) + r) (hr : r < 9218868437227405312) (hs : s = false ∨ r = 0) (w : World) : Calls Tryd.prog 8 #[.float .f64 x] w fun e w' => e = .returned (.bool true) ∧ Below w.heap.size w w' := by
  obtain ⟨X, Y, o1, KX⟩ := K.ey s hx hr hs
  have hm : x % 9223372036854775808 = r := by cases s <;> simp at hx <;> omega
  obtain ⟨X', Y', o2, KR⟩ := of4_any hm hr
  obtain ⟨rfl, rfl⟩ : X = X' ∧ Y = Y' := by
    have e := o1.eq
    rw [o2.eq] at e
    injection e with a b
    injection b with b c
    exact ⟨a.symm, b.symm⟩
  have KX := Lib.hid KX; have KR := Lib.hid KR
  have KA := Lib.hid K
  have i1 : (FloatKind.f64.format.order x x != some .eq) = false := by rw [f64_format, order_self_num hx hr]; rfl
  have i2 : (FloatKind.f64.format.order 0 0 != some .eq) = false := by decide
  have i3 : (FloatKind.f64.format.order x 0 == some .lt) = false := by
    rw [f64_format, order_zero_num hx hr]
    rcases hs with h | h
    · rw [h]; rfl
    · simp [h]
  have RS : ∀ (W : World) (t : TypeId), (binOp .sub t (.float .f64 x) (.float .f64 x)).run Tryd.prog W = .ok (.float .f64 0) W := fun W t => run_float_arith W .sub t .f64 x x 0 (sub_self_num hx hr)
  clear o1 o2 K hm hx hr hs
  go_enter Tryd.func8, Tryd.ntmps8
  go_wp2_with fail
  refine (KX.out _).mono ?_
  rintro e y1 ⟨A1, n1, c1, A2, n2, c2, rfl, M1, M2, B1⟩
  have S := (((Fs.start w).next B1).put M1).put M2
  clear M1 M2 B1 KX
  have S := S.box (.slice A1 n1 c1) (.slice A2 n2 c2)
  generalize hv : y1.alloc (.cells #[.slice A1 n1 c1, .slice A2 n2 c2] 50) = v1 at *
  go_upto_region 4 with (first | simp only [RS] | simp only [i1] | fail)
  clear hv
  generalize y1.heap.size = z1 at *
  obtain ⟨⟨x0, x1, -⟩, -⟩ := S.cel
  have KS : Hid (∀ (W : World) (D D' : Option Addr) (m k m' k' : Nat), Below v1.heap.size v1 W → Lim W D m k (limbs X) → Lim W D' m' k' (limbs Y) → Calls Tryd.prog 57 #[.agg #[.slice A1 n1 c1, .slice A2 n2 c2], .agg #[.slice D m k, .slice D' m' k']] W fun e w' => e = .returned (.bool true) ∧ Below W.heap.size W w') := fun W D D' m k m' k' hb h h' => same3_yes (S.lie.2.1.next hb) (S.lie.1.next hb) h h'
  have CC : Hid (∀ W, Below v1.heap.size v1 W → W.cell? ⟨z1, 0, none⟩ = some (.slice A1 n1 c1) ∧ W.cell? ⟨z1, 1, none⟩ = some (.slice A2 n2 c2)) := fun W h => ⟨keep_cell h x0, keep_cell h x1⟩
  have SS := Lib.hid S
  clear S x0 x1
  go_region_held3 (fun W => W.cell? ⟨z1, 0, none⟩ = some (.slice A1 n1 c1) ∧ W.cell? ⟨z1, 1, none⟩ = some (.slice A2 n2 c2))
    ((refine CC.out _ ?_; repeat (first | with_reducible exact Below.refl _ _ | with_reducible exact (Below.refl _ _).drew | refine below_step ?_ (by assumption))))
    (first
      | (go_at_call 58; (with_reducible refine (KR.out _).mono ?_); rintro e r1 ⟨D1, d1, j1, D2, d2, j2, rfl, L1, L2, C1⟩)
      | (go_at_call 57; (with_reducible refine (KS.out _ _ _ _ _ _ _ ?_ ?_ ?_).mono ?_); (· repeat (first | with_reducible exact Below.refl _ _ | with_reducible exact (Below.refl _ _).drew | refine below_step ?_ (by assumption))); (· repeat (first | assumption | refine Lim.next ?_ (by assumption))); (· repeat (first | assumption | refine Lim.next ?_ (by assumption))); rintro e r2 ⟨rfl, C2⟩)
      | (go_at_call 52; refine (awake4 KA.out _).mono ?_; rintro e r3 ⟨rfl, C3⟩))
  all_goals go_wp2_with fail
  all_goals go_ret
  all_goals exact ⟨rfl, (((SS.out.drew.next C1).next C2).next C3).bl⟩
set_option maxHeartbeats 4000000 in
set_option maxRecDepth 100000 in
theorem nan (K : App) {x r : Nat} {s : Bool} (hx : x = (if s then 9223372036854775808 else 0) + r) (hr : r < 9223372036854775808) (h : NaN x) (hn : ¬ (r < 9218868437227405312 ∧ (s = false ∨ r = 0))) (w : World) : Calls Tryd.prog 8 #[.float .f64 x] w fun e w' => e = .returned (.bool true) ∧ Below w.heap.size w w' := by
  have i1 : (FloatKind.f64.format.order x x != some .eq) = true := by rw [f64_format, nan_order h]; rfl
  clear h
  have KX := Lib.hid (K.en s hx hr hn)
  have KA := Lib.hid K
  clear K hx hr hn
  go_enter Tryd.func8, Tryd.ntmps8
  go_wp2_with fail
  refine (KX.out _).mono ?_
  rintro e y1 ⟨A1, n1, c1, A2, n2, c2, rfl, M1, M2, B1⟩
  have S := (((Fs.start w).next B1).put M1).put M2
  clear M1 M2 B1 KX
  have S := S.box (.slice A1 n1 c1) (.slice A2 n2 c2)
  generalize hv : y1.alloc (.cells #[.slice A1 n1 c1, .slice A2 n2 c2] 50) = v1 at *
  go_upto_region 3 with fail
  obtain ⟨⟨x0, x1, -⟩, -⟩ := S.cel
  clear hv
  generalize y1.heap.size = z1 at *
  go_wp2_with fail
  refine (same3_yes S.lie.2.1 S.lie.1 (lim0 _) (lim0 _)).mono ?_
  rintro e y2 ⟨rfl, B1⟩
  have S := S.next B1
  clear B1 x0 x1
  go_wp2_with fail
  refine (awake4 KA.out _).mono ?_
  rintro e y3 ⟨rfl, B1⟩
  have S := S.next B1
  go_wp2_with fail
  go_ret
  exact ⟨rfl, S.bl⟩
set_option maxHeartbeats 4000000 in
set_option maxRecDepth 100000 in
theorem below (K : App) {x r : Nat} {s : Bool} (hx : x = (if s then 9223372036854775808 else 0) + r) (hr : r < 9223372036854775808) (lt : r < 9218868437227405312) (hn : ¬ (r < 9218868437227405312 ∧ (s = false ∨ r = 0))) (w : World) : Calls Tryd.prog 8 #[.float .f64 x] w fun e w' => e = .returned (.bool true) ∧ Below w.heap.size w w' := by
  have i1 : (FloatKind.f64.format.order x x != some .eq) = false := by rw [f64_format, order_self_num hx lt]; rfl
  have i2 : (FloatKind.f64.format.order 0 0 != some .eq) = false := by decide
  have i3 : (FloatKind.f64.format.order x 0 == some .lt) = true := by
    rw [f64_format, order_zero_num hx lt]
    have h1 : s = true := by
      cases s
      · exact absurd ⟨lt, Or.inl rfl⟩ hn
      · rfl
    have h2 : r ≠ 0 := fun h => hn ⟨lt, Or.inr h⟩
    rw [h1]; simp [h2]
  have RS : ∀ (W : World) (t : TypeId), (binOp .sub t (.float .f64 x) (.float .f64 x)).run Tryd.prog W = .ok (.float .f64 0) W := fun W t => run_float_arith W .sub t .f64 x x 0 (sub_self_num hx lt)
  clear lt
  have KX := Lib.hid (K.en s hx hr hn)
  have KA := Lib.hid K
  clear K hx hr hn
  go_enter Tryd.func8, Tryd.ntmps8
  go_wp2_with fail
  refine (KX.out _).mono ?_
  rintro e y1 ⟨A1, n1, c1, A2, n2, c2, rfl, M1, M2, B1⟩
  have S := (((Fs.start w).next B1).put M1).put M2
  clear M1 M2 B1 KX
  have S := S.box (.slice A1 n1 c1) (.slice A2 n2 c2)
  generalize hv : y1.alloc (.cells #[.slice A1 n1 c1, .slice A2 n2 c2] 50) = v1 at *
  go_upto_region 3 with (first | simp only [RS] | fail)
  obtain ⟨⟨x0, x1, -⟩, -⟩ := S.cel
  clear hv
  generalize y1.heap.size = z1 at *
  go_wp2_with fail
  refine (same3_yes S.lie.2.1 S.lie.1 (lim0 _) (lim0 _)).mono ?_
  rintro e y2 ⟨rfl, B1⟩
  have S := S.next B1
  clear B1 x0 x1
  go_wp2_with fail
  refine (awake4 KA.out _).mono ?_
  rintro e y3 ⟨rfl, B1⟩
  have S := S.next B1
  go_wp2_with fail
  go_ret
  exact ⟨rfl, S.bl⟩
set_option maxHeartbeats 4000000 in
set_option maxRecDepth 100000 in
theorem inf (K : App) {x r : Nat} {s : Bool} (hx : x = (if s then 9223372036854775808 else 0) + r) (hr : r < 9223372036854775808) (h : Ieee.double.read x = .infinity s) (hn : ¬ (r < 9218868437227405312 ∧ (s = false ∨ r = 0))) (w : World) : Calls Tryd.prog 8 #[.float .f64 x] w fun e w' => e = .returned (.bool true) ∧ Below w.heap.size w w' := by
  have i1 : (FloatKind.f64.format.order x x != some .eq) = false := by rw [f64_format, order_self_inf h]; rfl
  have RS := Lib.hid (fun (W : World) => run_sub_none (P := Tryd.prog) (w := W) (t := 67) (sub_self_inf h))
  clear h
  have KX := Lib.hid (K.en s hx hr hn)
  have KA := Lib.hid K
  clear K hx hr hn
  go_enter Tryd.func8, Tryd.ntmps8
  go_wp2_with fail
  refine (KX.out _).mono ?_
  rintro e y1 ⟨A1, n1, c1, A2, n2, c2, rfl, M1, M2, B1⟩
  have S := (((Fs.start w).next B1).put M1).put M2
  clear M1 M2 B1 KX
  have S := S.box (.slice A1 n1 c1) (.slice A2 n2 c2)
  generalize hv : y1.alloc (.cells #[.slice A1 n1 c1, .slice A2 n2 c2] 50) = v1 at *
  obtain ⟨z, hz, nz⟩ := RS.out v1
  have i2 : (FloatKind.f64.format.order z 0 != some .eq) = true := by rw [f64_format, nan_order nz]; rfl
  clear nz RS
  go_upto_region 3 with (first | simp only [hz] | fail)
  have S := S.drew
  generalize v1.drew = v2 at *
  obtain ⟨⟨x0, x1, -⟩, -⟩ := S.cel
  clear hv
  generalize y1.heap.size = z1 at *
  go_wp2_with fail
  refine (same3_yes S.lie.2.1 S.lie.1 (lim0 _) (lim0 _)).mono ?_
  rintro e y2 ⟨rfl, B1⟩
  have S := S.next B1
  clear B1 x0 x1
  go_wp2_with fail
  refine (awake4 KA.out _).mono ?_
  rintro e y3 ⟨rfl, B1⟩
  have S := S.next B1
  go_wp2_with fail
  go_ret
  exact ⟨rfl, S.bl⟩
theorem walk (K : App) {x : Nat} (hx : x < 18446744073709551616) (w : World) : Calls Tryd.prog 8 #[.float .f64 x] w fun e w' => e = .returned (.bool true) ∧ Below w.heap.size w w' := by
  obtain ⟨s, r, e, lt⟩ := word_parts hx
  by_cases g : r < 9218868437227405312 ∧ (s = false ∨ r = 0)
  · exact yes K e g.1 g.2 w
  · rcases Nat.lt_trichotomy r 9218868437227405312 with k | k | k
    · exact below K e lt k g w
    · exact inf K e lt (read_inf s (by rw [e, k])) g w
    · obtain ⟨t, z⟩ := read_nan s e k lt
      exact nan K e lt ⟨s, t, z⟩ g w
end Go.Proofs.YtdnikdocfbbkkaaDoor.approxExact
