/- The walks of the laws ApproxTwice, ApproxWhole, ApproxBack. -/
import Derived.Test.YtdnikdocfbbkkaaDoorJ19
namespace Go.Proofs.YtdnikdocfbbkkaaDoor
open Go.RowKit
set_option linter.unusedVariables false
set_option linter.unusedSimpArgs false

theorem wrap_low {b : Nat} (h : b < 9223372036854775808) : IntKind.i64.wrap (b : Int) = (b : Int) := IntWalk.i64_in _ (by omega)
set_option maxRecDepth 100000 in
theorem signbit_no {b : Nat} (h : b < 9223372036854775808) (w : World) : Calls Tryd.prog 60 #[.float .f64 b] w fun e w' => e = .returned (.bool false) ∧ w = w' := by
  have F : ∀ W : World, (callFunc 54 #[.float .f64 b]).run Tryd.prog W = .ok (.value (.int .u64 (b : Int))) W := fun W => fbits b W
  have E := wrap_low h
  clear h
  go_enter Tryd.func60, Tryd.ntmps60
  go_wp2_with (simp only [F])
  go_ret
  exact ⟨rfl, rfl⟩
end Go.Proofs.YtdnikdocfbbkkaaDoor
namespace Go.Proofs.YtdnikdocfbbkkaaDoor.approxTwice
open Go.RowKit
open Go.Proofs.YtdnikdocfbbkkaaDoor
set_option linter.unusedVariables false
set_option linter.unusedSimpArgs false
set_option maxHeartbeats 4000000 in
set_option maxRecDepth 100000 in
theorem long1 (K : App) {A A' : Option Addr} {n c n' c' : Nat} {w : World} (z : ¬ n ≤ 8) : Calls Tryd.prog 13 #[.agg #[.slice A n c, .slice A' n' c']] w fun e w' => e = .returned (.bool true) ∧ Below w.heap.size w w' := by
  have S := (Fs.start w).box (.slice A n c) (.slice A' n' c')
  have KA := Lib.hid K
  have d1 : decide ((n : Int) > 8) = true := by simp; omega
  clear K z
  go_enter Tryd.func13, Tryd.ntmps13
  go_upto_region 1 with fail
  generalize w.alloc (.cells #[.slice A n c, .slice A' n' c'] 50) = w0 at *
  obtain ⟨⟨x0, x1, -⟩, -⟩ := S.cel
  go_wp2_with fail
  refine (awake4 KA.out _).mono ?_
  rintro e y9 ⟨rfl, B1⟩
  have S := S.next B1
  go_wp2_with fail
  go_ret
  exact ⟨rfl, S.bl⟩
set_option maxHeartbeats 4000000 in
set_option maxRecDepth 100000 in
theorem long2 (K : App) {A A' : Option Addr} {n c n' c' : Nat} {w : World} (z : n ≤ 8) (z' : ¬ n' ≤ 8) : Calls Tryd.prog 13 #[.agg #[.slice A n c, .slice A' n' c']] w fun e w' => e = .returned (.bool true) ∧ Below w.heap.size w w' := by
  have S := (Fs.start w).box (.slice A n c) (.slice A' n' c')
  have KA := Lib.hid K
  have d1 : decide ((n : Int) > 8) = false := by simp; omega
  have d2 : decide ((n' : Int) > 8) = true := by simp; omega
  clear K z z'
  go_enter Tryd.func13, Tryd.ntmps13
  go_upto_region 1 with fail
  generalize w.alloc (.cells #[.slice A n c, .slice A' n' c'] 50) = w0 at *
  obtain ⟨⟨x0, x1, -⟩, -⟩ := S.cel
  go_wp2_with fail
  refine (awake4 KA.out _).mono ?_
  rintro e y9 ⟨rfl, B1⟩
  have S := S.next B1
  go_wp2_with fail
  go_ret
  exact ⟨rfl, S.bl⟩
set_option maxHeartbeats 4000000 in
set_option maxRecDepth 100000 in
theorem none_ (K : App) {A A' : Option Addr} {n c n' c' : Nat} {xs ys : List Nat} {w : World} (h0 : Lim w A n c xs) (h1 : Lim w A' n' c' ys) (z : n ≤ 8) (z' : n' ≤ 8) (f : ¬ Fr xs ys) : Calls Tryd.prog 13 #[.agg #[.slice A n c, .slice A' n' c']] w fun e w' => e = .returned (.bool true) ∧ Below w.heap.size w w' := by
  have S := ((Fs.start w).put h0).put h1 |>.box (.slice A n c) (.slice A' n' c')
  have KA := Lib.hid K
  have FB := Lib.hid (frB_no f)
  have d1 : decide ((n : Int) > 8) = false := by simp; omega
  have d2 : decide ((n' : Int) > 8) = false := by simp; omega
  clear K h0 h1 f z z'
  go_enter Tryd.func13, Tryd.ntmps13
  go_upto_region 1 with fail
  generalize w.alloc (.cells #[.slice A n c, .slice A' n' c'] 50) = w0 at *
  obtain ⟨⟨x0, x1, -⟩, -⟩ := S.cel
  go_wp2_with fail
  have KK := ratRight_any S.lie.2.1 S.lie.1
  rw [FB.out] at KK
  refine KK.mono ?_
  clear KK x0 x1
  rintro e r1 ⟨rfl, C1⟩
  have S := S.next C1
  clear C1
  go_wp2_with fail
  refine (awake4 KA.out _).mono ?_
  rintro e y9 ⟨rfl, B1⟩
  have S := S.next B1
  go_wp2_with fail
  go_ret
  exact ⟨rfl, S.bl⟩
set_option maxHeartbeats 4000000 in
set_option maxRecDepth 100000 in
theorem yes (K : App) {A A' : Option Addr} {n c n' c' p q : Nat} {w : World} (h0 : Lim w A n c (limbs p)) (h1 : Lim w A' n' c' (limbs q)) (z : n ≤ 8) (z' : n' ≤ 8) (f : Fq p q) : Calls Tryd.prog 13 #[.agg #[.slice A n c, .slice A' n' c']] w fun e w' => e = .returned (.bool true) ∧ Below w.heap.size w w' := by
  have S := ((Fs.start w).put h0).put h1 |>.box (.slice A n c) (.slice A' n' c')
  have KA := Lib.hid K
  have FF := Lib.hid f; have FB := Lib.hid (frB_yes f.fr)
  obtain ⟨P, Q, hadd, fPQ, hmul⟩ := twice_num f (by have := h0.len; rw [limbs_length] at this; omega) (by have := h1.len; rw [limbs_length] at this; omega)
  have HA := Lib.hid hadd; have FP := Lib.hid fPQ; have HM := Lib.hid hmul
  have d1 : decide ((n : Int) > 8) = false := by simp; omega
  have d2 : decide ((n' : Int) > 8) = false := by simp; omega
  clear K h0 h1 f hadd fPQ hmul z z'
  go_enter Tryd.func13, Tryd.ntmps13
  go_upto_region 1 with fail
  generalize w.alloc (.cells #[.slice A n c, .slice A' n' c'] 50) = w0 at *
  obtain ⟨⟨x0, x1, -⟩, -⟩ := S.cel
  go_wp2_with fail
  have KK := ratRight_any S.lie.2.1 S.lie.1
  rw [FB.out] at KK
  refine KK.mono ?_
  clear KK x0 x1
  rintro e r1 ⟨rfl, C1⟩
  have S := S.next C1
  clear C1
  obtain ⟨⟨x0, x1, -⟩, -⟩ := S.cel
  go_wp2_with fail
  have KK := ratAdd_any S.lie.2.1 S.lie.1 S.lie.2.1 S.lie.1 FF.out FF.out
  rw [HA.out] at KK
  refine KK.mono ?_
  clear KK x0 x1
  rintro e y1 ⟨A1, n1, c1, A2, n2, c2, rfl, M1, M2, B1⟩
  have S := ((S.next B1).put M1).put M2
  clear M1 M2 B1
  have S := S.box (.slice A1 n1 c1) (.slice A2 n2 c2)
  generalize hv : y1.alloc (.cells #[.slice A1 n1 c1, .slice A2 n2 c2] 50) = v1 at *
  obtain ⟨⟨b0, b1, -⟩, ⟨x0, x1, -⟩, -⟩ := S.cel
  go_wp2_with fail
  clear hv
  generalize y1.heap.size = z1 at *
  refine (KA.out.fl S.lie.2.2.2.1 S.lie.2.2.1 FF.out).mono ?_
  clear x0 x1 b0 b1
  rintro e y2 ⟨b, fb, rfl, B1⟩
  have S := S.next B1
  clear B1
  obtain ⟨⟨b0, b1, -⟩, ⟨x0, x1, -⟩, -⟩ := S.cel
  go_wp2_with fail
  refine (KA.out.fl S.lie.2.1 S.lie.1 FP.out).mono ?_
  clear x0 x1 b0 b1
  rintro e y3 ⟨b', fb', rfl, B1⟩
  have S := S.next B1
  clear B1
  obtain ⟨lb, lb', hm⟩ := HM.out _ _ fb fb'
  have RM : ∀ (W : World) (t : TypeId), (binOp .mul t (.float .f64 4611686018427387904) (.float .f64 b)).run Tryd.prog W = .ok (.float .f64 b') W := fun W t => run_float_arith W .mul t .f64 _ _ _ hm
  have i1 : (FloatKind.f64.format.order b' b' == some .eq) = true := by
    have := order_rung (a := b') (b := b') (by omega) (by omega)
    rw [show FloatKind.f64.format = Ieee.double from rfl, this]; simp
  clear fb fb' lb lb' hm HM HA
  go_wp2_with (simp only [RM])
  refine (awake4 KA.out _).mono ?_
  rintro e y9 ⟨rfl, B1⟩
  have S := S.next B1
  go_wp2_with fail
  go_ret
  exact ⟨rfl, S.bl⟩
theorem walk (K : App) {A A' : Option Addr} {n c n' c' : Nat} {xs ys : List Nat} {w : World} (h0 : Lim w A n c xs) (h1 : Lim w A' n' c' ys) : Calls Tryd.prog 13 #[.agg #[.slice A n c, .slice A' n' c']] w fun e w' => e = .returned (.bool true) ∧ Below w.heap.size w w' := by
  by_cases z : n ≤ 8
  · by_cases z' : n' ≤ 8
    · by_cases f : Fr xs ys
      · obtain ⟨k, e0, e1⟩ := f.num h0.lo h1.lo
        exact yes K (e0 ▸ h0) (e1 ▸ h1) z z' k
      · exact none_ K h0 h1 z z' f
    · exact long2 K z z'
  · exact long1 K z
end Go.Proofs.YtdnikdocfbbkkaaDoor.approxTwice
