/- For every two pairs of limbs the law RatBack answers true: what is added is taken away again, and what is multiplied is divided. No condition beyond the row; the tables of unicode/utf8 start as the program lays them (tied). -/
import Derived.Test.YtnacokogihanoaaDoorRG
namespace Go.Proofs.YtnacokogihanoaaDoor.ratBack
open Go.ChangeShapes Go.WideShapes Go.ChangeAt Go.RowKit
open Go.Proofs.YtnacokogihanoaaDoor
set_option linter.unusedVariables false
set_option linter.unusedSimpArgs false

set_option maxHeartbeats 8000000 in
set_option maxRecDepth 100000 in
theorem notfew {A A' D D' : Option Addr} {n c n' c' m k m' k' : Nat} {xs ys us vs : List Nat} {w : World} (h0 : Lim w A n c xs) (h0' : Lim w A' n' c' ys) (h1 : Lim w D m k us) (h1' : Lim w D' m' k' vs) (f : ¬ ∀ t ∈ ([⟨A, n, c, xs, A', n', c', ys⟩, ⟨D, m, k, us, D', m', k', vs⟩] : List It), t.Few) : Calls Tryd.prog 8 #[.agg #[.slice A n c, .slice A' n' c'], .agg #[.slice D m k, .slice D' m' k']] w fun e w' => e = .returned (.bool true) ∧ Below w.heap.size w w' := by
  have FB := Lib.hid (fewB_no f)
  have S := (((((Fs.start w).put h0).put h0').put h1).put h1') |>.box (.slice A n c) (.slice A' n' c') |>.box (.slice D m k) (.slice D' m' k')
  simp only [World.size_alloc] at S
  clear h0 h0' h1 h1' f
  go_enter Tryd.func8, Tryd.ntmps8
  go_upto_region 1 with fail
  generalize (w.alloc (.cells #[.slice A n c, .slice A' n' c'] 50)).alloc (.cells #[.slice D m k, .slice D' m' k'] 50) = w0 at *
  obtain ⟨⟨x10, x11, -⟩, ⟨x00, x01, -⟩, -⟩ := S.cel
  go_wp2_with fail
  have L0 : ∀ t ∈ ([⟨A, n, c, xs, A', n', c', ys⟩, ⟨D, m, k, us, D', m', k', vs⟩] : List It), t.At w0 := by
    intro t ht
    simp only [List.mem_cons, List.not_mem_nil, or_false] at ht
    rcases ht with rfl | rfl
    · exact ⟨S.lie.2.2.2.1, S.lie.2.2.1⟩
    · exact ⟨S.lie.2.1, S.lie.1⟩
  have K := few_any (k := 2) (its_new w0 [⟨A, n, c, xs, A', n', c', ys⟩, ⟨D, m, k, us, D', m', k', vs⟩] #[.slice A n c, .slice A' n' c', .slice D m k, .slice D' m' k'] rfl L0) rfl (by omega)
  rw [FB.out] at K
  clear L0
  refine K.mono ?_
  clear K
  rintro e w1 ⟨rfl, B1⟩
  have S := (S.alloc (.cells #[.slice A n c, .slice A' n' c', .slice D m k, .slice D' m' k'] 50)).next B1
  clear B1
  clear x10 x11 x00 x01
  obtain ⟨⟨x10, x11, -⟩, ⟨x00, x01, -⟩, -⟩ := S.cel
  go_wp2_with fail
  refine (awake3 _).mono ?_
  rintro e y1 ⟨rfl, B1⟩
  have S := S.next B1
  clear B1
  go_wp2_with fail
  go_ret
  exact ⟨rfl, S.bl⟩
set_option maxHeartbeats 8000000 in
set_option maxRecDepth 100000 in
theorem main0 {A A' D D' : Option Addr} {n c n' c' m k m' k' : Nat} {p q p' q' : Nat} {w : World} (h0 : Lim w A n c (limbs p)) (h0' : Lim w A' n' c' (limbs q)) (h1 : Lim w D m k (limbs p')) (h1' : Lim w D' m' k' (limbs q')) (f0 : F6 p q) (f1 : F6 p' q') (z : p' ≠ 0) : Calls Tryd.prog 8 #[.agg #[.slice A n c, .slice A' n' c'], .agg #[.slice D m k, .slice D' m' k']] w fun e w' => e = .returned (.bool true) ∧ Below w.heap.size w w' := by
  have hm := h1.len
  rw [limbs_length] at hm
  have hm0 := ln_pos z
  have i0 : ((m : Int) == 0) = false := by simp; omega
  clear hm hm0
  have FB := Lib.hid (fewB_yes (l := [⟨A, n, c, limbs p, A', n', c', limbs q⟩, ⟨D, m, k, limbs p', D', m', k', limbs q'⟩]) (by
    intro t ht
    simp only [List.mem_cons, List.not_mem_nil, or_false] at ht
    rcases ht with rfl | rfl
    · exact few_num h0 h0' f0
    · exact few_num h1 h1' f1))
  obtain ⟨x1, x2, m1, m2, E1, fx, E2, E3, fm, E4, E5⟩ := back_num f0 f1
  have E4 := E4 z
  clear E5
  have E1 := Lib.hid E1; have E2 := Lib.hid E2; have E3 := Lib.hid E3; have E4 := Lib.hid E4; have F0 := Lib.hid f0.f; have F1 := Lib.hid f1.f; have FX := Lib.hid fx; have FM := Lib.hid fm
  clear f0 f1 fx fm z
  have S := (((((Fs.start w).put h0).put h0').put h1).put h1') |>.box (.slice A n c) (.slice A' n' c') |>.box (.slice D m k) (.slice D' m' k')
  simp only [World.size_alloc] at S
  clear h0 h0' h1 h1'
  go_enter Tryd.func8, Tryd.ntmps8
  go_upto_region 1 with fail
  generalize (w.alloc (.cells #[.slice A n c, .slice A' n' c'] 50)).alloc (.cells #[.slice D m k, .slice D' m' k'] 50) = w0 at *
  obtain ⟨⟨x10, x11, -⟩, ⟨x00, x01, -⟩, -⟩ := S.cel
  go_wp2_with fail
  have L0 : ∀ t ∈ ([⟨A, n, c, limbs p, A', n', c', limbs q⟩, ⟨D, m, k, limbs p', D', m', k', limbs q'⟩] : List It), t.At w0 := by
    intro t ht
    simp only [List.mem_cons, List.not_mem_nil, or_false] at ht
    rcases ht with rfl | rfl
    · exact ⟨S.lie.2.2.2.1, S.lie.2.2.1⟩
    · exact ⟨S.lie.2.1, S.lie.1⟩
  have K := few_any (k := 2) (its_new w0 [⟨A, n, c, limbs p, A', n', c', limbs q⟩, ⟨D, m, k, limbs p', D', m', k', limbs q'⟩] #[.slice A n c, .slice A' n' c', .slice D m k, .slice D' m' k'] rfl L0) rfl (by omega)
  rw [FB.out] at K
  clear L0
  refine K.mono ?_
  clear K
  rintro e w1 ⟨rfl, B1⟩
  have S := (S.alloc (.cells #[.slice A n c, .slice A' n' c', .slice D m k, .slice D' m' k'] 50)).next B1
  clear B1
  clear x10 x11 x00 x01
  obtain ⟨⟨x10, x11, -⟩, ⟨x00, x01, -⟩, -⟩ := S.cel
  go_wp2_with fail
  have K := ratAdd_any S.lie.2.2.2.1 S.lie.2.2.1 S.lie.2.1 S.lie.1 F0.out F1.out
  rw [E1.out] at K
  refine K.mono ?_
  clear K
  clear x10 x11 x00 x01
  rintro e y1 ⟨JA1, jn1, jc1, JB1, jm1, jk1, rfl, M1, M2, B1⟩
  have S := ((S.next B1).put M1).put M2
  clear M1 M2 B1
  have S := S.box (.slice JA1 jn1 jc1) (.slice JB1 jm1 jk1)
  generalize hv1 : y1.alloc (.cells #[.slice JA1 jn1 jc1, .slice JB1 jm1 jk1] 50) = v1 at *
  obtain ⟨⟨s0, s1, -⟩, ⟨x10, x11, -⟩, ⟨x00, x01, -⟩, -⟩ := S.cel
  go_wp2_with fail
  clear hv1
  generalize y1.heap.size = z1 at *
  have K := ratSub_any S.lie.2.1 S.lie.1 S.lie.2.2.2.1 S.lie.2.2.1 FX.out F1.out
  rw [E2.out] at K
  refine K.mono ?_
  clear K
  clear s0 s1 x10 x11 x00 x01
  rintro e y2 ⟨JA2, jn2, jc2, JB2, jm2, jk2, rfl, M1, M2, B1⟩
  have S := ((S.next B1).put M1).put M2
  clear M1 M2 B1
  have S := S.box (.slice JA2 jn2 jc2) (.slice JB2 jm2 jk2)
  generalize hv2 : y2.alloc (.cells #[.slice JA2 jn2 jc2, .slice JB2 jm2 jk2] 50) = v2 at *
  obtain ⟨⟨d0, d1, -⟩, ⟨s0, s1, -⟩, ⟨x10, x11, -⟩, ⟨x00, x01, -⟩, -⟩ := S.cel
  go_wp2_with fail
  clear hv2
  generalize y2.heap.size = z2 at *
  have K := ratMul_any S.lie.2.2.2.2.2.2.2.1 S.lie.2.2.2.2.2.2.1 S.lie.2.2.2.2.2.1 S.lie.2.2.2.2.1 F0.out F1.out
  rw [E3.out] at K
  refine K.mono ?_
  clear K
  clear d0 d1 s0 s1 x10 x11 x00 x01
  rintro e y3 ⟨JA3, jn3, jc3, JB3, jm3, jk3, rfl, M1, M2, B1⟩
  have S := ((S.next B1).put M1).put M2
  clear M1 M2 B1
  have S := S.box (.slice JA3 jn3 jc3) (.slice JB3 jm3 jk3)
  generalize hv3 : y3.alloc (.cells #[.slice JA3 jn3 jc3, .slice JB3 jm3 jk3] 50) = v3 at *
  obtain ⟨⟨m0, m1, -⟩, ⟨d0, d1, -⟩, ⟨s0, s1, -⟩, ⟨x10, x11, -⟩, ⟨x00, x01, -⟩, -⟩ := S.cel
  go_wp2_with fail
  clear hv3
  generalize y3.heap.size = z3 at *
  have K := ratDiv_any S.lie.2.1 S.lie.1 S.lie.2.2.2.2.2.2.2.1 S.lie.2.2.2.2.2.2.1 FM.out F1.out
  rw [E4.out] at K
  refine K.mono ?_
  clear K
  clear m0 m1 d0 d1 s0 s1 x10 x11 x00 x01
  rintro e y4 ⟨JA4, jn4, jc4, JB4, jm4, jk4, rfl, M1, M2, B1⟩
  have S := ((S.next B1).put M1).put M2
  clear M1 M2 B1
  have S := S.box (.slice JA4 jn4 jc4) (.slice JB4 jm4 jk4)
  generalize hv4 : y4.alloc (.cells #[.slice JA4 jn4 jc4, .slice JB4 jm4 jk4] 50) = v4 at *
  obtain ⟨⟨q0, q1, -⟩, ⟨m0, m1, -⟩, ⟨d0, d1, -⟩, ⟨s0, s1, -⟩, ⟨x10, x11, -⟩, ⟨x00, x01, -⟩, -⟩ := S.cel
  go_wp2_with fail
  clear hv4
  generalize y4.heap.size = z4 at *
  have K := same3_yes S.lie.2.2.2.2.2.1 S.lie.2.2.2.2.1 S.lie.2.2.2.2.2.2.2.2.2.2.2.1 S.lie.2.2.2.2.2.2.2.2.2.2.1
  refine K.mono ?_
  clear K
  clear q0 q1 m0 m1 d0 d1 s0 s1 x10 x11 x00 x01
  rintro e y5 ⟨rfl, B1⟩
  have S := S.next B1
  clear B1
  obtain ⟨⟨q0, q1, -⟩, ⟨m0, m1, -⟩, ⟨d0, d1, -⟩, ⟨s0, s1, -⟩, ⟨x10, x11, -⟩, ⟨x00, x01, -⟩, -⟩ := S.cel
  go_wp2_with fail
  have K := same3_yes S.lie.2.1 S.lie.1 S.lie.2.2.2.2.2.2.2.2.2.2.2.1 S.lie.2.2.2.2.2.2.2.2.2.2.1
  refine K.mono ?_
  clear K
  clear q0 q1 m0 m1 d0 d1 s0 s1 x10 x11 x00 x01
  rintro e y6 ⟨rfl, B1⟩
  have S := S.next B1
  clear B1
  obtain ⟨⟨q0, q1, -⟩, ⟨m0, m1, -⟩, ⟨d0, d1, -⟩, ⟨s0, s1, -⟩, ⟨x10, x11, -⟩, ⟨x00, x01, -⟩, -⟩ := S.cel
  go_wp2_with fail
  refine (awake3 _).mono ?_
  rintro e y7 ⟨rfl, B1⟩
  have S := S.next B1
  clear B1
  go_wp2_with fail
  go_ret
  exact ⟨rfl, S.bl⟩
set_option maxHeartbeats 8000000 in
set_option maxRecDepth 100000 in
theorem main1 {A A' D D' : Option Addr} {n c n' c' m k m' k' : Nat} {p q p' q' : Nat} {w : World} (h0 : Lim w A n c (limbs p)) (h0' : Lim w A' n' c' (limbs q)) (h1 : Lim w D m k (limbs p')) (h1' : Lim w D' m' k' (limbs q')) (f0 : F6 p q) (f1 : F6 p' q') (z : p' = 0) : Calls Tryd.prog 8 #[.agg #[.slice A n c, .slice A' n' c'], .agg #[.slice D m k, .slice D' m' k']] w fun e w' => e = .returned (.bool true) ∧ Below w.heap.size w w' := by
  have hm := h1.len
  rw [limbs_length, z, ln_zero] at hm
  have i0 : ((m : Int) == 0) = true := by simp; omega
  clear hm
  have FB := Lib.hid (fewB_yes (l := [⟨A, n, c, limbs p, A', n', c', limbs q⟩, ⟨D, m, k, limbs p', D', m', k', limbs q'⟩]) (by
    intro t ht
    simp only [List.mem_cons, List.not_mem_nil, or_false] at ht
    rcases ht with rfl | rfl
    · exact few_num h0 h0' f0
    · exact few_num h1 h1' f1))
  obtain ⟨x1, x2, m1, m2, E1, fx, E2, E3, fm, E4, E5⟩ := back_num f0 f1
  obtain ⟨X1, X2⟩ := E5 z
  clear E4
  subst z
  have X1 := X1.symm; have X2 := X2.symm
  subst X1 X2
  have E4 : divR m1 m2 0 q' = (0, 0, 7) := divR_zero
  have E1 := Lib.hid E1; have E2 := Lib.hid E2; have E3 := Lib.hid E3; have E4 := Lib.hid E4; have F0 := Lib.hid f0.f; have F1 := Lib.hid f1.f; have FX := Lib.hid fx; have FM := Lib.hid fm
  clear f0 f1 fx fm
  have S := (((((Fs.start w).put h0).put h0').put h1).put h1') |>.box (.slice A n c) (.slice A' n' c') |>.box (.slice D m k) (.slice D' m' k')
  simp only [World.size_alloc] at S
  clear h0 h0' h1 h1'
  go_enter Tryd.func8, Tryd.ntmps8
  go_upto_region 1 with fail
  generalize (w.alloc (.cells #[.slice A n c, .slice A' n' c'] 50)).alloc (.cells #[.slice D m k, .slice D' m' k'] 50) = w0 at *
  obtain ⟨⟨x10, x11, -⟩, ⟨x00, x01, -⟩, -⟩ := S.cel
  go_wp2_with fail
  have L0 : ∀ t ∈ ([⟨A, n, c, limbs p, A', n', c', limbs q⟩, ⟨D, m, k, limbs 0, D', m', k', limbs q'⟩] : List It), t.At w0 := by
    intro t ht
    simp only [List.mem_cons, List.not_mem_nil, or_false] at ht
    rcases ht with rfl | rfl
    · exact ⟨S.lie.2.2.2.1, S.lie.2.2.1⟩
    · exact ⟨S.lie.2.1, S.lie.1⟩
  have K := few_any (k := 2) (its_new w0 [⟨A, n, c, limbs p, A', n', c', limbs q⟩, ⟨D, m, k, limbs 0, D', m', k', limbs q'⟩] #[.slice A n c, .slice A' n' c', .slice D m k, .slice D' m' k'] rfl L0) rfl (by omega)
  rw [FB.out] at K
  clear L0
  refine K.mono ?_
  clear K
  rintro e w1 ⟨rfl, B1⟩
  have S := (S.alloc (.cells #[.slice A n c, .slice A' n' c', .slice D m k, .slice D' m' k'] 50)).next B1
  clear B1
  clear x10 x11 x00 x01
  obtain ⟨⟨x10, x11, -⟩, ⟨x00, x01, -⟩, -⟩ := S.cel
  go_wp2_with fail
  have K := ratAdd_any S.lie.2.2.2.1 S.lie.2.2.1 S.lie.2.1 S.lie.1 F0.out F1.out
  rw [E1.out] at K
  refine K.mono ?_
  clear K
  clear x10 x11 x00 x01
  rintro e y1 ⟨JA1, jn1, jc1, JB1, jm1, jk1, rfl, M1, M2, B1⟩
  have S := ((S.next B1).put M1).put M2
  clear M1 M2 B1
  have S := S.box (.slice JA1 jn1 jc1) (.slice JB1 jm1 jk1)
  generalize hv1 : y1.alloc (.cells #[.slice JA1 jn1 jc1, .slice JB1 jm1 jk1] 50) = v1 at *
  obtain ⟨⟨s0, s1, -⟩, ⟨x10, x11, -⟩, ⟨x00, x01, -⟩, -⟩ := S.cel
  go_wp2_with fail
  clear hv1
  generalize y1.heap.size = z1 at *
  have K := ratSub_any S.lie.2.1 S.lie.1 S.lie.2.2.2.1 S.lie.2.2.1 FX.out F1.out
  rw [E2.out] at K
  refine K.mono ?_
  clear K
  clear s0 s1 x10 x11 x00 x01
  rintro e y2 ⟨JA2, jn2, jc2, JB2, jm2, jk2, rfl, M1, M2, B1⟩
  have S := ((S.next B1).put M1).put M2
  clear M1 M2 B1
  have S := S.box (.slice JA2 jn2 jc2) (.slice JB2 jm2 jk2)
  generalize hv2 : y2.alloc (.cells #[.slice JA2 jn2 jc2, .slice JB2 jm2 jk2] 50) = v2 at *
  obtain ⟨⟨d0, d1, -⟩, ⟨s0, s1, -⟩, ⟨x10, x11, -⟩, ⟨x00, x01, -⟩, -⟩ := S.cel
  go_wp2_with fail
  clear hv2
  generalize y2.heap.size = z2 at *
  have K := ratMul_any S.lie.2.2.2.2.2.2.2.1 S.lie.2.2.2.2.2.2.1 S.lie.2.2.2.2.2.1 S.lie.2.2.2.2.1 F0.out F1.out
  rw [E3.out] at K
  refine K.mono ?_
  clear K
  clear d0 d1 s0 s1 x10 x11 x00 x01
  rintro e y3 ⟨JA3, jn3, jc3, JB3, jm3, jk3, rfl, M1, M2, B1⟩
  have S := ((S.next B1).put M1).put M2
  clear M1 M2 B1
  have S := S.box (.slice JA3 jn3 jc3) (.slice JB3 jm3 jk3)
  generalize hv3 : y3.alloc (.cells #[.slice JA3 jn3 jc3, .slice JB3 jm3 jk3] 50) = v3 at *
  obtain ⟨⟨m0, m1, -⟩, ⟨d0, d1, -⟩, ⟨s0, s1, -⟩, ⟨x10, x11, -⟩, ⟨x00, x01, -⟩, -⟩ := S.cel
  go_wp2_with fail
  clear hv3
  generalize y3.heap.size = z3 at *
  have K := ratDiv_any S.lie.2.1 S.lie.1 S.lie.2.2.2.2.2.2.2.1 S.lie.2.2.2.2.2.2.1 FM.out F1.out
  rw [E4.out] at K
  refine K.mono ?_
  clear K
  clear m0 m1 d0 d1 s0 s1 x10 x11 x00 x01
  rintro e y4 ⟨JA4, jn4, jc4, JB4, jm4, jk4, rfl, M1, M2, B1⟩
  have S := ((S.next B1).put M1).put M2
  clear M1 M2 B1
  have S := S.box (.slice JA4 jn4 jc4) (.slice JB4 jm4 jk4)
  generalize hv4 : y4.alloc (.cells #[.slice JA4 jn4 jc4, .slice JB4 jm4 jk4] 50) = v4 at *
  obtain ⟨⟨q0, q1, -⟩, ⟨m0, m1, -⟩, ⟨d0, d1, -⟩, ⟨s0, s1, -⟩, ⟨x10, x11, -⟩, ⟨x00, x01, -⟩, -⟩ := S.cel
  go_wp2_with fail
  clear hv4
  generalize y4.heap.size = z4 at *
  have K := same3_yes S.lie.2.2.2.2.2.2.2.1 S.lie.2.2.2.2.2.2.1 S.lie.2.2.2.2.2.2.2.2.2.2.2.1 S.lie.2.2.2.2.2.2.2.2.2.2.1
  refine K.mono ?_
  clear K
  clear q0 q1 m0 m1 d0 d1 s0 s1 x10 x11 x00 x01
  rintro e y5 ⟨rfl, B1⟩
  have S := S.next B1
  clear B1
  obtain ⟨⟨q0, q1, -⟩, ⟨m0, m1, -⟩, ⟨d0, d1, -⟩, ⟨s0, s1, -⟩, ⟨x10, x11, -⟩, ⟨x00, x01, -⟩, -⟩ := S.cel
  go_wp2_with fail
  refine (awake3 _).mono ?_
  rintro e y6 ⟨rfl, B1⟩
  have S := S.next B1
  clear B1
  go_wp2_with fail
  go_ret
  exact ⟨rfl, S.bl⟩
theorem main {A A' D D' : Option Addr} {n c n' c' m k m' k' : Nat} {p q p' q' : Nat} {w : World} (h0 : Lim w A n c (limbs p)) (h0' : Lim w A' n' c' (limbs q)) (h1 : Lim w D m k (limbs p')) (h1' : Lim w D' m' k' (limbs q')) (f0 : F6 p q) (f1 : F6 p' q') : Calls Tryd.prog 8 #[.agg #[.slice A n c, .slice A' n' c'], .agg #[.slice D m k, .slice D' m' k']] w fun e w' => e = .returned (.bool true) ∧ Below w.heap.size w w' := by
  by_cases z : p' = 0
  · exact main1 h0 h0' h1 h1' f0 f1 z
  · exact main0 h0 h0' h1 h1' f0 f1 z
theorem walk {A A' D D' : Option Addr} {n c n' c' m k m' k' : Nat} {xs ys us vs : List Nat} {w : World} (h0 : Lim w A n c xs) (h0' : Lim w A' n' c' ys) (h1 : Lim w D m k us) (h1' : Lim w D' m' k' vs) : Calls Tryd.prog 8 #[.agg #[.slice A n c, .slice A' n' c'], .agg #[.slice D m k, .slice D' m' k']] w fun e w' => e = .returned (.bool true) ∧ Below w.heap.size w w' := by
  by_cases f : ∀ t ∈ ([⟨A, n, c, xs, A', n', c', ys⟩, ⟨D, m, k, us, D', m', k', vs⟩] : List It), t.Few
  · have g0 := f ⟨A, n, c, xs, A', n', c', ys⟩ (by simp)
    obtain ⟨f0, e0, e0'⟩ := num_few h0 h0' g0
    have g1 := f ⟨D, m, k, us, D', m', k', vs⟩ (by simp)
    obtain ⟨f1, e1, e1'⟩ := num_few h1 h1' g1
    exact main (e0 ▸ h0) (e0' ▸ h0') (e1 ▸ h1) (e1' ▸ h1') f0 f1
  · exact notfew h0 h0' h1 h1' f

set_option maxRecDepth 100000 in
theorem lifted (os : Os) (started : os.Started) (H : Type) (enc : TypeId × Value → H) :
    ReturnsInHanded {} Tryd.checked os 8 .any (fun w args => (Rows.ratBackSpec.pre enc Tryd.prog Tryd.f8 Rows.ratBackRow.domain false w args ∧ laidMetH Tryd.prog Rows.ratBackRow.laid w) ∧ sizedMet enc Tryd.prog Tryd.f8 (OpenSpec.ofChange Rows.ratBackSpec) false w args)
      (Rows.ratBackSpec.post enc Tryd.prog Tryd.f8 false true false false) := by
  refine returnsInHanded_of_change_and (C := Tryd.checked) (X := fun w _ => laidMetH Tryd.prog Rows.ratBackRow.laid w) (fun _ _ _ hh h => h.of_heap hh) own started (by kernel_rfl) Tryd.func8
    (ChangeSpec.witness_shaped (enc := enc) (C := Tryd.checked) (os := os) (X := fun w _ => laidMetH Tryd.prog Rows.ratBackRow.laid w) false (World.laidAll Tryd.prog os Rows.ratBackRow.laid) #[.agg #[.slice none 0 0, .slice none 0 0], .agg #[.slice none 0 0, .slice none 0 0]] 8 (World.laidAll_os _ _ _)
      (World.shaped_of_ZipB (by kernel_rfl) (by kernel_rfl)) (by kernel_rfl) (by kernel_rfl) (by kernel_rfl)
      (by rw [MakeChecks.laidMetH_plain _ _ _ (by kernel_rfl)]; exact laidMet_laidAll _ (by kernel_rfl) (by kernel_rfl))) ?_
  intro W base args ds gs before hval0 hW _ _ _ _
  have hval : ∀ (j : Nat) t v, Tryd.f8.params[j]? = some t → args[j]? = some v → Value.okWide Tryd.prog W .any base t v := hval0
  have hW' := hW
  obtain ⟨p, q, hA0, hV, rfl, _, _⟩ := hW
  have hA : DataW.TrodAll enc Tryd.prog W 0 (fun _ => true) true Tryd.f8.params.toList args.toList ds p := hA0
  rw [Tryd.params8] at hA hval
  obtain ⟨v0, v1, d0, d1, p0, p1, rfl, rfl, rfl, h0t, h1t⟩ := trodAll_two hA
  obtain ⟨rfl, rfl⟩ := trodVars_none hV
  obtain ⟨⟨A, n, c, xs, A', n', c', ys⟩, rfl, h0, h0'⟩ := open_rat (hval 0 50 v0 rfl rfl) h0t
  obtain ⟨⟨D, m, k, us, D', m', k', vs⟩, rfl, h1, h1'⟩ := open_rat (hval 1 50 v1 rfl rfl) h1t
  clear hA0 hval0
  simp only [List.append_nil] at hW'
  have hlt : ∀ x ∈ p0 ++ p1, x.block < W.heap.size := fun x hx => by simpa using hW'.lt x (by simpa using hx)
  refine (walk h0 h0' h1 h1').mono fun e W' ⟨he, hbl⟩ => ?_
  subst he
  refine ⟨_, rfl, post_args hW' (fun _ _ _ => trodAll_mk1 (shut_bool Tryd.underlying4 _)) ?_ (fun _ => rfl) hbl⟩
  have t0 := Below.trod laidOut readable_rat typed_rat h0t hbl (fun x hx => hlt x (List.mem_append_left _ hx))
  have t1 := Below.trod laidOut readable_rat typed_rat h1t hbl (fun x hx => hlt x (List.mem_append_right _ hx))
  exact trodAll_mk2 t0 t1

theorem holds : Rows.RatBackSaid :=
  OpenClaim.holds_of_wide 8 Tryd.f8 rfl rfl rfl rfl rfl rfl rfl ⟨rfl, rfl, rfl, rfl, rfl⟩ rfl rfl rfl rfl rfl (by kernel_rfl) Tryd.func8 (by kernel_rfl)
    (of_decide_eq_true (by kernel_rfl)) (by unfold Func.isWrapper; first | (rw [if_pos (by decide +kernel)]; kernel_rfl) | (rw [if_neg (by decide +kernel)]; exact ⟨rfl, rfl⟩))
    (fun os started H enc _ => lifted os started H enc)
theorem proved : Rows.RatBackCardSaid :=
  Claim7.holds_tied_plain_at .later [] [.data, .pinned] true (true, "7bac054c24a4a5cdd971a304af75554519beee4c5270e6492823ef9c09dcec6f") false
    holds (fun _ h => by cases h) (by kernel_rfl) (fun _ h => by cases h) ratBack_row_tie rfl ⟨rfl, rfl⟩ (by kernel_rfl) rfl
    (fun f fn hf hfn => by
      obtain rfl : f = 8 := Option.some.inj ((show Tryd.prog.funcNamed "samphire/samphirelaw03.RatBack" = some 8 by kernel_rfl).symm.trans hf) |>.symm
      obtain rfl : fn = Tryd.f8 := (Option.some.inj (Tryd.func8.symm.trans hfn)).symm
      exact ⟨by kernel_rfl, fun j t ht => by
        rw [Tryd.params8] at ht
        rcases j with _ | _ | j
        · obtain rfl : t = 50 := by simpa using ht.symm
          exact (show Tryd.prog.wantsStandIn 50 = false by kernel_rfl)
        · obtain rfl : t = 50 := by simpa using ht.symm
          exact (show Tryd.prog.wantsStandIn 50 = false by kernel_rfl)
        · simp at ht⟩)
    (by kernel_rfl)
#print axioms proved
end Go.Proofs.YtnacokogihanoaaDoor.ratBack
