/- The walk of the law ApproxBack. -/
import Derived.Test.YtdnikdocfbbkkaaDoorAG
namespace Go.Proofs.YtdnikdocfbbkkaaDoor.approxBack
open Go.RowKit
open Go.Proofs.YtdnikdocfbbkkaaDoor
set_option linter.unusedVariables false
set_option linter.unusedSimpArgs false
theorem f64_format : FloatKind.f64.format = Ieee.double := rfl
theorem eq_back {x r : Nat} {s : Bool} (hx : x = (if s then 9223372036854775808 else 0) + r) (hr : r < 9218868437227405312) (hs : s = false ∨ r = 0) : Ieee.double.order r x = some .eq := by
  cases s
  · have e : x = r := by simpa using hx
    rw [e, order_rung (by omega) (by omega)]; simp
  · obtain rfl : r = 0 := by simpa using hs
    obtain rfl : x = 9223372036854775808 := by simpa using hx
    decide
set_option maxHeartbeats 4000000 in
set_option maxRecDepth 100000 in
theorem low (K : App) {x r : Nat} {s : Bool} (hx : x = (if s then 9223372036854775808 else 0) + r) (hr : r < 9223372036854775808) (hn : ¬ (r < 9218868437227405312 ∧ (s = false ∨ r = 0))) (g1 : (FloatKind.f64.format.order x 0 == some .gt) = false) (g2 : (FloatKind.f64.format.order x 0 == some .eq) = false) (w : World) : Calls Tryd.prog 9 #[.float .f64 x] w fun e w' => e = .returned (.bool true) ∧ Below w.heap.size w w' := by
  have KX := Lib.hid (K.en s hx hr hn)
  have KA := Lib.hid K
  clear K hx hr hn
  go_enter Tryd.func9, Tryd.ntmps9
  go_wp2_with fail
  refine (KX.out _).mono ?_
  rintro e y1 ⟨A1, n1, c1, A2, n2, c2, rfl, M1, M2, B1⟩
  have S := (((Fs.start w).next B1).put M1).put M2
  clear M1 M2 B1 KX
  have S := S.box (.slice A1 n1 c1) (.slice A2 n2 c2)
  generalize hv : y1.alloc (.cells #[.slice A1 n1 c1, .slice A2 n2 c2] 50) = v1 at *
  go_wp2_with fail
  refine (awake4 KA.out _).mono ?_
  rintro e y9 ⟨rfl, B1⟩
  have S := S.next B1
  go_wp2_with fail
  go_ret
  exact ⟨rfl, S.bl⟩
set_option maxHeartbeats 4000000 in
set_option maxRecDepth 100000 in
theorem inf (K : App) {x r : Nat} {s : Bool} (hx : x = (if s then 9223372036854775808 else 0) + r) (hr : r < 9223372036854775808) (hn : ¬ (r < 9218868437227405312 ∧ (s = false ∨ r = 0))) (h : Ieee.double.read x = .infinity s) (g1 : (FloatKind.f64.format.order x 0 == some .gt) = true) (w : World) : Calls Tryd.prog 9 #[.float .f64 x] w fun e w' => e = .returned (.bool true) ∧ Below w.heap.size w w' := by
  have RS := Lib.hid (fun (W : World) => run_sub_none (P := Tryd.prog) (w := W) (t := 67) (sub_self_inf h))
  have KX := Lib.hid (K.en s hx hr hn)
  have KA := Lib.hid K
  clear K hx hr hn h
  go_enter Tryd.func9, Tryd.ntmps9
  go_wp2_with fail
  refine (KX.out _).mono ?_
  rintro e y1 ⟨A1, n1, c1, A2, n2, c2, rfl, M1, M2, B1⟩
  have S := (((Fs.start w).next B1).put M1).put M2
  clear M1 M2 B1 KX
  have S := S.box (.slice A1 n1 c1) (.slice A2 n2 c2)
  generalize hv : y1.alloc (.cells #[.slice A1 n1 c1, .slice A2 n2 c2] 50) = v1 at *
  obtain ⟨z, hz, nz⟩ := RS.out v1
  have i2 : (FloatKind.f64.format.order z 0 == some .eq) = false := by rw [f64_format, nan_order nz]; rfl
  clear nz RS
  go_wp2_with (first | simp only [hz] | fail)
  have S := S.drew
  refine (awake4 KA.out _).mono ?_
  rintro e y9 ⟨rfl, B1⟩
  have S := S.next B1
  go_wp2_with fail
  go_ret
  exact ⟨rfl, S.bl⟩
set_option maxHeartbeats 4000000 in
set_option maxRecDepth 100000 in
theorem yes (K : App) {x r : Nat} {s : Bool} (hx : x = (if s then 9223372036854775808 else 0) + r) (hr : r < 9218868437227405312) (hs : s = false ∨ r = 0) (w : World) : Calls Tryd.prog 9 #[.float .f64 x] w fun e w' => e = .returned (.bool true) ∧ Below w.heap.size w w' := by
  obtain ⟨X, Y, o1, KX⟩ := K.ey s hx hr hs
  have KX := Lib.hid KX
  have KA := Lib.hid K
  have O1 := Lib.hid o1
  have HR := Lib.hid hr
  have KE : Hid (∀ {A A' : Option Addr} {n c n' c' : Nat} {w : World}, Lim w A n c (limbs X) → Lim w A' n' c' (limbs Y) → Calls Tryd.prog 59 #[.agg #[.slice A n c, .slice A' n' c']] w fun e w' => RetA3 (0, 1, 0) w e w') := fun h h' => o1.err ▸ K.er h h' o1.fq (o1.fl hr) hr o1
  have i1 : (FloatKind.f64.format.order r x == some .eq) = true := by rw [f64_format, eq_back hx hr hs]; rfl
  have KS := Lib.hid (fun W => signbit_no (b := r) (by omega) W)
  clear K o1 hx hr hs
  go_enter Tryd.func9, Tryd.ntmps9
  go_wp2_with fail
  refine (KX.out _).mono ?_
  rintro e y1 ⟨A1, n1, c1, A2, n2, c2, rfl, M1, M2, B1⟩
  have S := (((Fs.start w).next B1).put M1).put M2
  clear M1 M2 B1 KX
  have S := S.box (.slice A1 n1 c1) (.slice A2 n2 c2)
  generalize hv : y1.alloc (.cells #[.slice A1 n1 c1, .slice A2 n2 c2] 50) = v1 at *
  obtain ⟨⟨x0, x1, -⟩, -⟩ := S.cel
  go_wp2_with fail
  clear hv
  generalize y1.heap.size = z1 at *
  refine (KA.out.fl S.lie.2.1 S.lie.1 O1.out.fq).mono ?_
  clear x0 x1
  rintro e y2 ⟨b, fb, rfl, B1⟩
  obtain rfl := fb.same (O1.out.fl HR.out)
  have S := S.next B1
  clear B1 fb O1 HR
  obtain ⟨⟨x0, x1, -⟩, -⟩ := S.cel
  go_wp2_with fail
  refine (KE.out S.lie.2.1 S.lie.1).mono ?_
  clear x0 x1
  rintro e y3 ⟨A3, n3, c3, A4, n4, c4, rfl, M1, M2, B1⟩
  obtain rfl : n3 = 0 := by have := M1.len; rw [limbs_zero] at this; simpa using this.symm
  have S := (S.next B1).put M1
  clear M1 M2 B1 KE
  have S := S.box (.slice A3 0 c3) (.slice A4 n4 c4)
  generalize hv : y3.alloc (.cells #[.slice A3 0 c3, .slice A4 n4 c4] 50) = v3 at *
  go_upto_region 6 with fail
  obtain ⟨⟨x0, x1, -⟩, -⟩ := S.cel
  clear hv
  generalize y3.heap.size = z3 at *
  go_wp2_with fail
  refine (KS.out _).mono ?_
  rintro e w' ⟨rfl, rfl⟩
  go_wp2_with fail
  refine (awake4 KA.out _).mono ?_
  rintro e y9 ⟨rfl, B1⟩
  have S := S.next B1
  go_wp2_with fail
  go_ret
  exact ⟨rfl, S.bl⟩
theorem walk (K : App) {x : Nat} (hx : x < 18446744073709551616) (w : World) : Calls Tryd.prog 9 #[.float .f64 x] w fun e w' => e = .returned (.bool true) ∧ Below w.heap.size w w' := by
  obtain ⟨s, r, e, lt⟩ := word_parts hx
  by_cases g : r < 9218868437227405312 ∧ (s = false ∨ r = 0)
  · exact yes K e g.1 g.2 w
  · rcases Nat.lt_trichotomy r 9218868437227405312 with k | k | k
    · have h1 : s = true := by
        cases s
        · exact absurd ⟨k, Or.inl rfl⟩ g
        · rfl
      have h2 : r ≠ 0 := fun h => g ⟨k, Or.inr h⟩
      have o := order_zero_num e k
      rw [h1] at o
      have o : Ieee.double.order x 0 = some .lt := by simpa [h2] using o
      exact low K e lt g (by rw [f64_format, o]; rfl) (by rw [f64_format, o]; rfl) w
    · cases s
      · have e' : x = 9218868437227405312 := by rw [e, k]; simp
        exact inf K e lt g (read_inf false (by rw [e, k])) (by rw [e']; decide) w
      · have e' : x = 18442240474082181120 := by rw [e, k]; simp
        exact low K e lt g (by rw [e']; decide) (by rw [e']; decide) w
    · obtain ⟨t, z⟩ := read_nan s e k lt
      have o : Ieee.double.order x 0 = none := nan_order ⟨s, t, z⟩ 0
      exact low K e lt g (by rw [f64_format, o]; rfl) (by rw [f64_format, o]; rfl) w
end Go.Proofs.YtdnikdocfbbkkaaDoor.approxBack
