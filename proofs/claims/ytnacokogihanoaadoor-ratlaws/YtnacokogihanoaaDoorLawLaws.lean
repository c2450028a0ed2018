/- For every three pairs of limbs the law RatLaws answers true: sums and products go in any order and in any grouping; a product by a sum is the sum of products. No condition beyond the row; the tables of unicode/utf8 start as the program lays them (tied). -/
import Derived.Test.YtnacokogihanoaaDoorRG
namespace Go.Proofs.YtnacokogihanoaaDoor.ratLaws
open Go.ChangeShapes Go.WideShapes Go.ChangeAt Go.RowKit
open Go.Proofs.YtnacokogihanoaaDoor
set_option linter.unusedVariables false
set_option linter.unusedSimpArgs false

set_option maxHeartbeats 8000000 in
set_option maxRecDepth 100000 in
theorem notfew {A A' D D' E E' : Option Addr} {n c n' c' m k m' k' i j i' j' : Nat} {xs ys us vs gs hs : List Nat} {w : World} (h0 : Lim w A n c xs) (h0' : Lim w A' n' c' ys) (h1 : Lim w D m k us) (h1' : Lim w D' m' k' vs) (h2 : Lim w E i j gs) (h2' : Lim w E' i' j' hs) (f : ¬ ∀ t ∈ ([⟨A, n, c, xs, A', n', c', ys⟩, ⟨D, m, k, us, D', m', k', vs⟩, ⟨E, i, j, gs, E', i', j', hs⟩] : List It), t.Few) : Calls Tryd.prog 7 #[.agg #[.slice A n c, .slice A' n' c'], .agg #[.slice D m k, .slice D' m' k'], .agg #[.slice E i j, .slice E' i' j']] w fun e w' => e = .returned (.bool true) ∧ Below w.heap.size w w' := by
  have FB := Lib.hid (fewB_no f)
  have S := (((((((Fs.start w).put h0).put h0').put h1).put h1').put h2).put h2') |>.box (.slice A n c) (.slice A' n' c') |>.box (.slice D m k) (.slice D' m' k') |>.box (.slice E i j) (.slice E' i' j')
  simp only [World.size_alloc] at S
  clear h0 h0' h1 h1' h2 h2' f
  go_enter Tryd.func7, Tryd.ntmps7
  go_upto_region 1 with fail
  generalize ((w.alloc (.cells #[.slice A n c, .slice A' n' c'] 50)).alloc (.cells #[.slice D m k, .slice D' m' k'] 50)).alloc (.cells #[.slice E i j, .slice E' i' j'] 50) = w0 at *
  obtain ⟨⟨x20, x21, -⟩, ⟨x10, x11, -⟩, ⟨x00, x01, -⟩, -⟩ := S.cel
  go_wp2_with fail
  have L0 : ∀ t ∈ ([⟨A, n, c, xs, A', n', c', ys⟩, ⟨D, m, k, us, D', m', k', vs⟩, ⟨E, i, j, gs, E', i', j', hs⟩] : List It), t.At w0 := by
    intro t ht
    simp only [List.mem_cons, List.not_mem_nil, or_false] at ht
    rcases ht with rfl | rfl | rfl
    · exact ⟨S.lie.2.2.2.2.2.1, S.lie.2.2.2.2.1⟩
    · exact ⟨S.lie.2.2.2.1, S.lie.2.2.1⟩
    · exact ⟨S.lie.2.1, S.lie.1⟩
  have K := few_any (k := 3) (its_new w0 [⟨A, n, c, xs, A', n', c', ys⟩, ⟨D, m, k, us, D', m', k', vs⟩, ⟨E, i, j, gs, E', i', j', hs⟩] #[.slice A n c, .slice A' n' c', .slice D m k, .slice D' m' k', .slice E i j, .slice E' i' j'] rfl L0) rfl (by omega)
  rw [FB.out] at K
  clear L0
  refine K.mono ?_
  clear K
  rintro e w1 ⟨rfl, B1⟩
  have S := (S.alloc (.cells #[.slice A n c, .slice A' n' c', .slice D m k, .slice D' m' k', .slice E i j, .slice E' i' j'] 50)).next B1
  clear B1
  clear x20 x21 x10 x11 x00 x01
  obtain ⟨⟨x20, x21, -⟩, ⟨x10, x11, -⟩, ⟨x00, x01, -⟩, -⟩ := S.cel
  go_wp2_with fail
  refine (awake3 _).mono ?_
  rintro e y1 ⟨rfl, B1⟩
  have S := S.next B1
  clear B1
  go_wp2_with fail
  go_ret
  exact ⟨rfl, S.bl⟩
set_option maxHeartbeats 8000000 in
set_option maxRecDepth 100000 in
theorem main {A A' D D' E E' : Option Addr} {n c n' c' m k m' k' i j i' j' : Nat} {p q p' q' r s : Nat} {w : World} (h0 : Lim w A n c (limbs p)) (h0' : Lim w A' n' c' (limbs q)) (h1 : Lim w D m k (limbs p')) (h1' : Lim w D' m' k' (limbs q')) (h2 : Lim w E i j (limbs r)) (h2' : Lim w E' i' j' (limbs s)) (f0 : F6 p q) (f1 : F6 p' q') (f2 : F6 r s) : Calls Tryd.prog 7 #[.agg #[.slice A n c, .slice A' n' c'], .agg #[.slice D m k, .slice D' m' k'], .agg #[.slice E i j, .slice E' i' j']] w fun e w' => e = .returned (.bool true) ∧ Below w.heap.size w w' := by
  have FB := Lib.hid (fewB_yes (l := [⟨A, n, c, limbs p, A', n', c', limbs q⟩, ⟨D, m, k, limbs p', D', m', k', limbs q'⟩, ⟨E, i, j, limbs r, E', i', j', limbs s⟩]) (by
    intro t ht
    simp only [List.mem_cons, List.not_mem_nil, or_false] at ht
    rcases ht with rfl | rfl | rfl
    · exact few_num h0 h0' f0
    · exact few_num h1 h1' f1
    · exact few_num h2 h2' f2))
  obtain ⟨x1, x2, y1, y2, z1, z2, m1, m2, u1, u2, v1, v2, t1, t2, e1, e2, fx, e3, e4, fz, e5, e6, e7, e8, e9, fv, e10, ft, e11⟩ := laws_num f0 f1 f2
  have E1 := Lib.hid e1; have E2 := Lib.hid e2; have E3 := Lib.hid e3; have E4 := Lib.hid e4; have E5 := Lib.hid e5; have E6 := Lib.hid e6; have E7 := Lib.hid e7; have E8 := Lib.hid e8; have E9 := Lib.hid e9; have E10 := Lib.hid e10; have E11 := Lib.hid e11
  have F0 := Lib.hid f0.f; have F1 := Lib.hid f1.f; have F2 := Lib.hid f2.f; have FX := Lib.hid fx; have FZ := Lib.hid fz; have FV := Lib.hid fv; have FT := Lib.hid ft
  clear f0 f1 f2 fx fz fv ft e1 e2 e3 e4 e5 e6 e7 e8 e9 e10 e11
  have S := (((((((Fs.start w).put h0).put h0').put h1).put h1').put h2).put h2') |>.box (.slice A n c) (.slice A' n' c') |>.box (.slice D m k) (.slice D' m' k') |>.box (.slice E i j) (.slice E' i' j')
  simp only [World.size_alloc] at S
  clear h0 h0' h1 h1' h2 h2'
  go_enter Tryd.func7, Tryd.ntmps7
  go_upto_region 1 with fail
  generalize ((w.alloc (.cells #[.slice A n c, .slice A' n' c'] 50)).alloc (.cells #[.slice D m k, .slice D' m' k'] 50)).alloc (.cells #[.slice E i j, .slice E' i' j'] 50) = w0 at *
  obtain ⟨⟨x20, x21, -⟩, ⟨x10, x11, -⟩, ⟨x00, x01, -⟩, -⟩ := S.cel
  go_wp2_with fail
  have L0 : ∀ t ∈ ([⟨A, n, c, limbs p, A', n', c', limbs q⟩, ⟨D, m, k, limbs p', D', m', k', limbs q'⟩, ⟨E, i, j, limbs r, E', i', j', limbs s⟩] : List It), t.At w0 := by
    intro t ht
    simp only [List.mem_cons, List.not_mem_nil, or_false] at ht
    rcases ht with rfl | rfl | rfl
    · exact ⟨S.lie.2.2.2.2.2.1, S.lie.2.2.2.2.1⟩
    · exact ⟨S.lie.2.2.2.1, S.lie.2.2.1⟩
    · exact ⟨S.lie.2.1, S.lie.1⟩
  have K := few_any (k := 3) (its_new w0 [⟨A, n, c, limbs p, A', n', c', limbs q⟩, ⟨D, m, k, limbs p', D', m', k', limbs q'⟩, ⟨E, i, j, limbs r, E', i', j', limbs s⟩] #[.slice A n c, .slice A' n' c', .slice D m k, .slice D' m' k', .slice E i j, .slice E' i' j'] rfl L0) rfl (by omega)
  rw [FB.out] at K
  clear L0
  refine K.mono ?_
  clear K
  rintro e w1 ⟨rfl, B1⟩
  have S := (S.alloc (.cells #[.slice A n c, .slice A' n' c', .slice D m k, .slice D' m' k', .slice E i j, .slice E' i' j'] 50)).next B1
  clear B1
  clear x20 x21 x10 x11 x00 x01
  obtain ⟨⟨x20, x21, -⟩, ⟨x10, x11, -⟩, ⟨x00, x01, -⟩, -⟩ := S.cel
  go_wp2_with fail
  have K := ratAdd_any S.lie.2.2.2.2.2.1 S.lie.2.2.2.2.1 S.lie.2.2.2.1 S.lie.2.2.1 F0.out F1.out
  rw [E1.out] at K
  refine K.mono ?_
  clear K
  clear x20 x21 x10 x11 x00 x01
  rintro e y1 ⟨JA1, jn1, jc1, JB1, jm1, jk1, rfl, M1, M2, B1⟩
  have S := ((S.next B1).put M1).put M2
  clear M1 M2 B1
  have S := S.box (.slice JA1 jn1 jc1) (.slice JB1 jm1 jk1)
  generalize hv1 : y1.alloc (.cells #[.slice JA1 jn1 jc1, .slice JB1 jm1 jk1] 50) = v1 at *
  obtain ⟨⟨x0, x1, -⟩, ⟨x20, x21, -⟩, ⟨x10, x11, -⟩, ⟨x00, x01, -⟩, -⟩ := S.cel
  go_wp2_with fail
  clear hv1
  generalize y1.heap.size = z1 at *
  have K := ratAdd_any S.lie.2.2.2.2.2.1 S.lie.2.2.2.2.1 S.lie.2.2.2.2.2.2.2.1 S.lie.2.2.2.2.2.2.1 F1.out F0.out
  rw [E2.out] at K
  refine K.mono ?_
  clear K
  clear x0 x1 x20 x21 x10 x11 x00 x01
  rintro e y2 ⟨JA2, jn2, jc2, JB2, jm2, jk2, rfl, M1, M2, B1⟩
  have S := ((S.next B1).put M1).put M2
  clear M1 M2 B1
  have S := S.box (.slice JA2 jn2 jc2) (.slice JB2 jm2 jk2)
  generalize hv2 : y2.alloc (.cells #[.slice JA2 jn2 jc2, .slice JB2 jm2 jk2] 50) = v2 at *
  obtain ⟨⟨y0, y1, -⟩, ⟨x0, x1, -⟩, ⟨x20, x21, -⟩, ⟨x10, x11, -⟩, ⟨x00, x01, -⟩, -⟩ := S.cel
  go_wp2_with fail
  clear hv2
  generalize y2.heap.size = z2 at *
  have K := ratAdd_any S.lie.2.2.2.1 S.lie.2.2.1 S.lie.2.2.2.2.2.1 S.lie.2.2.2.2.1 FX.out F2.out
  rw [E3.out] at K
  refine K.mono ?_
  clear K
  clear y0 y1 x0 x1 x20 x21 x10 x11 x00 x01
  rintro e y3 ⟨JA3, jn3, jc3, JB3, jm3, jk3, rfl, M1, M2, B1⟩
  have S := ((S.next B1).put M1).put M2
  clear M1 M2 B1
  have S := S.box (.slice JA3 jn3 jc3) (.slice JB3 jm3 jk3)
  generalize hv3 : y3.alloc (.cells #[.slice JA3 jn3 jc3, .slice JB3 jm3 jk3] 50) = v3 at *
  obtain ⟨⟨g0, g1, -⟩, ⟨y0, y1, -⟩, ⟨x0, x1, -⟩, ⟨x20, x21, -⟩, ⟨x10, x11, -⟩, ⟨x00, x01, -⟩, -⟩ := S.cel
  go_wp2_with fail
  clear hv3
  generalize y3.heap.size = z3 at *
  have K := ratAdd_any S.lie.2.2.2.2.2.2.2.2.2.1 S.lie.2.2.2.2.2.2.2.2.1 S.lie.2.2.2.2.2.2.2.1 S.lie.2.2.2.2.2.2.1 F1.out F2.out
  rw [E4.out] at K
  refine K.mono ?_
  clear K
  clear g0 g1 y0 y1 x0 x1 x20 x21 x10 x11 x00 x01
  rintro e y4 ⟨JA4, jn4, jc4, JB4, jm4, jk4, rfl, M1, M2, B1⟩
  have S := ((S.next B1).put M1).put M2
  clear M1 M2 B1
  obtain ⟨⟨-, -, -, -, kg⟩, ⟨-, -, -, -, ky⟩, ⟨-, -, -, -, kx⟩, ⟨-, -, -, -, kx2⟩, ⟨-, -, -, -, kx1⟩, ⟨-, -, -, -, kx0⟩, -⟩ := S.cel
  have kw := S.bl.size
  have S := S.box (.slice JA4 jn4 jc4) (.slice JB4 jm4 jk4)
  generalize hv4 : y4.alloc (.cells #[.slice JA4 jn4 jc4, .slice JB4 jm4 jk4] 50) = v4 at *
  obtain ⟨⟨q0, q1, -⟩, ⟨g0, g1, -⟩, ⟨y0, y1, -⟩, ⟨x0, x1, -⟩, ⟨x20, x21, -⟩, ⟨x10, x11, -⟩, ⟨x00, x01, -⟩, -⟩ := S.cel
  go_wp2_with fail
  clear hv4
  generalize y4.heap.size = z4 at *
  have K := ratAdd_any S.lie.2.2.2.2.2.2.2.2.2.2.2.2.2.1 S.lie.2.2.2.2.2.2.2.2.2.2.2.2.1 S.lie.2.1 S.lie.1 F0.out FZ.out
  rw [E5.out] at K
  refine K.mono ?_
  clear K
  clear q0 q1 g0 g1 y0 y1 x0 x1 x20 x21 x10 x11 x00 x01
  rintro e y5 ⟨JA5, jn5, jc5, JB5, jm5, jk5, rfl, M1, M2, B1⟩
  have S := ((S.next B1).put M1).put M2
  clear M1 M2 B1
  obtain ⟨⟨c0, c1, c2, c3, c4⟩, -⟩ := S.cel
  go_upto_region 8 with fail
  have S := Fs.set (p := []) S (by omega) (by simp; omega) (.slice JA5 jn5 jc5) (.slice JB5 jm5 jk5)
  simp only [List.nil_append] at S
  clear c0 c1 c2 c3 c4 kg ky kx kx2 kx1 kx0 kw
  generalize (y5.setCell ⟨z4, 0, none⟩ (.slice JA5 jn5 jc5)).setCell ⟨z4, 1, none⟩ (.slice JB5 jm5 jk5) = v5 at *
  obtain ⟨⟨q0, q1, -⟩, ⟨g0, g1, -⟩, ⟨y0, y1, -⟩, ⟨x0, x1, -⟩, ⟨x20, x21, -⟩, ⟨x10, x11, -⟩, ⟨x00, x01, -⟩, -⟩ := S.cel
  go_wp2_with fail
  have K := ratMul_any S.lie.2.2.2.2.2.2.2.2.2.2.2.2.2.2.2.1 S.lie.2.2.2.2.2.2.2.2.2.2.2.2.2.2.1 S.lie.2.2.2.2.2.2.2.2.2.2.2.2.2.1 S.lie.2.2.2.2.2.2.2.2.2.2.2.2.1 F0.out F1.out
  rw [E6.out] at K
  refine K.mono ?_
  clear K
  clear q0 q1 g0 g1 y0 y1 x0 x1 x20 x21 x10 x11 x00 x01
  rintro e y6 ⟨JA6, jn6, jc6, JB6, jm6, jk6, rfl, M1, M2, B1⟩
  have S := ((S.next B1).put M1).put M2
  clear M1 M2 B1
  have S := S.box (.slice JA6 jn6 jc6) (.slice JB6 jm6 jk6)
  generalize hv6 : y6.alloc (.cells #[.slice JA6 jn6 jc6, .slice JB6 jm6 jk6] 50) = v6 at *
  obtain ⟨⟨m0, m1, -⟩, ⟨q0, q1, -⟩, ⟨g0, g1, -⟩, ⟨y0, y1, -⟩, ⟨x0, x1, -⟩, ⟨x20, x21, -⟩, ⟨x10, x11, -⟩, ⟨x00, x01, -⟩, -⟩ := S.cel
  go_wp2_with fail
  clear hv6
  generalize y6.heap.size = z6 at *
  have K := ratMul_any S.lie.2.2.2.2.2.2.2.2.2.2.2.2.2.2.2.1 S.lie.2.2.2.2.2.2.2.2.2.2.2.2.2.2.1 S.lie.2.2.2.2.2.2.2.2.2.2.2.2.2.2.2.2.2.1 S.lie.2.2.2.2.2.2.2.2.2.2.2.2.2.2.2.2.1 F1.out F0.out
  rw [E7.out] at K
  refine K.mono ?_
  clear K
  clear m0 m1 q0 q1 g0 g1 y0 y1 x0 x1 x20 x21 x10 x11 x00 x01
  rintro e y7 ⟨JA7, jn7, jc7, JB7, jm7, jk7, rfl, M1, M2, B1⟩
  have S := ((S.next B1).put M1).put M2
  clear M1 M2 B1
  have S := S.box (.slice JA7 jn7 jc7) (.slice JB7 jm7 jk7)
  generalize hv7 : y7.alloc (.cells #[.slice JA7 jn7 jc7, .slice JB7 jm7 jk7] 50) = v7 at *
  obtain ⟨⟨h0, h1, -⟩, ⟨m0, m1, -⟩, ⟨q0, q1, -⟩, ⟨g0, g1, -⟩, ⟨y0, y1, -⟩, ⟨x0, x1, -⟩, ⟨x20, x21, -⟩, ⟨x10, x11, -⟩, ⟨x00, x01, -⟩, -⟩ := S.cel
  go_wp2_with fail
  clear hv7
  generalize y7.heap.size = z7 at *
  have K := ratMul_any S.lie.2.2.2.2.2.2.2.2.2.2.2.2.2.1 S.lie.2.2.2.2.2.2.2.2.2.2.2.2.1 S.lie.2.2.2.2.2.2.2.2.2.2.2.2.2.2.2.1 S.lie.2.2.2.2.2.2.2.2.2.2.2.2.2.2.1 FX.out F2.out
  rw [E8.out] at K
  refine K.mono ?_
  clear K
  clear h0 h1 m0 m1 q0 q1 g0 g1 y0 y1 x0 x1 x20 x21 x10 x11 x00 x01
  rintro e y8 ⟨JA8, jn8, jc8, JB8, jm8, jk8, rfl, M1, M2, B1⟩
  have S := ((S.next B1).put M1).put M2
  clear M1 M2 B1
  have S := S.box (.slice JA8 jn8 jc8) (.slice JB8 jm8 jk8)
  generalize hv8 : y8.alloc (.cells #[.slice JA8 jn8 jc8, .slice JB8 jm8 jk8] 50) = v8 at *
  obtain ⟨⟨u0, u1, -⟩, ⟨h0, h1, -⟩, ⟨m0, m1, -⟩, ⟨q0, q1, -⟩, ⟨g0, g1, -⟩, ⟨y0, y1, -⟩, ⟨x0, x1, -⟩, ⟨x20, x21, -⟩, ⟨x10, x11, -⟩, ⟨x00, x01, -⟩, -⟩ := S.cel
  go_wp2_with fail
  clear hv8
  generalize y8.heap.size = z8 at *
  have K := ratMul_any S.lie.2.2.2.2.2.2.2.2.2.2.2.2.2.2.2.2.2.2.2.2.2.1 S.lie.2.2.2.2.2.2.2.2.2.2.2.2.2.2.2.2.2.2.2.2.1 S.lie.2.2.2.2.2.2.2.2.2.2.2.2.2.2.2.2.2.1 S.lie.2.2.2.2.2.2.2.2.2.2.2.2.2.2.2.2.1 F0.out F2.out
  rw [E9.out] at K
  refine K.mono ?_
  clear K
  clear u0 u1 h0 h1 m0 m1 q0 q1 g0 g1 y0 y1 x0 x1 x20 x21 x10 x11 x00 x01
  rintro e y9 ⟨JA9, jn9, jc9, JB9, jm9, jk9, rfl, M1, M2, B1⟩
  have S := ((S.next B1).put M1).put M2
  clear M1 M2 B1
  have S := S.box (.slice JA9 jn9 jc9) (.slice JB9 jm9 jk9)
  generalize hv9 : y9.alloc (.cells #[.slice JA9 jn9 jc9, .slice JB9 jm9 jk9] 50) = v9 at *
  obtain ⟨⟨v0, v1, -⟩, ⟨u0, u1, -⟩, ⟨h0, h1, -⟩, ⟨m0, m1, -⟩, ⟨q0, q1, -⟩, ⟨g0, g1, -⟩, ⟨y0, y1, -⟩, ⟨x0, x1, -⟩, ⟨x20, x21, -⟩, ⟨x10, x11, -⟩, ⟨x00, x01, -⟩, -⟩ := S.cel
  go_wp2_with fail
  clear hv9
  generalize y9.heap.size = z9 at *
  have K := ratMul_any S.lie.2.2.2.2.2.2.2.2.2.2.2.2.2.2.2.2.2.2.2.2.2.1 S.lie.2.2.2.2.2.2.2.2.2.2.2.2.2.2.2.2.2.2.2.2.1 S.lie.2.2.2.2.2.2.2.2.2.2.2.2.2.2.2.2.2.2.2.1 S.lie.2.2.2.2.2.2.2.2.2.2.2.2.2.2.2.2.2.2.1 F1.out F2.out
  rw [E10.out] at K
  refine K.mono ?_
  clear K
  clear v0 v1 u0 u1 h0 h1 m0 m1 q0 q1 g0 g1 y0 y1 x0 x1 x20 x21 x10 x11 x00 x01
  rintro e y10 ⟨JA10, jn10, jc10, JB10, jm10, jk10, rfl, M1, M2, B1⟩
  have S := ((S.next B1).put M1).put M2
  clear M1 M2 B1
  obtain ⟨⟨-, -, -, -, kv⟩, ⟨-, -, -, -, ku⟩, ⟨-, -, -, -, kh⟩, ⟨-, -, -, -, km⟩, ⟨-, -, -, -, kq⟩, ⟨-, -, -, -, kg⟩, ⟨-, -, -, -, ky⟩, ⟨-, -, -, -, kx⟩, ⟨-, -, -, -, kx2⟩, ⟨-, -, -, -, kx1⟩, ⟨-, -, -, -, kx0⟩, -⟩ := S.cel
  have kw := S.bl.size
  have S := S.box (.slice JA10 jn10 jc10) (.slice JB10 jm10 jk10)
  generalize hv10 : y10.alloc (.cells #[.slice JA10 jn10 jc10, .slice JB10 jm10 jk10] 50) = v10 at *
  obtain ⟨⟨t0, t1, -⟩, ⟨v0, v1, -⟩, ⟨u0, u1, -⟩, ⟨h0, h1, -⟩, ⟨m0, m1, -⟩, ⟨q0, q1, -⟩, ⟨g0, g1, -⟩, ⟨y0, y1, -⟩, ⟨x0, x1, -⟩, ⟨x20, x21, -⟩, ⟨x10, x11, -⟩, ⟨x00, x01, -⟩, -⟩ := S.cel
  go_wp2_with fail
  clear hv10
  generalize y10.heap.size = z10 at *
  have K := ratAdd_any S.lie.2.2.2.1 S.lie.2.2.1 S.lie.2.1 S.lie.1 FV.out FT.out
  rw [E11.out] at K
  refine K.mono ?_
  clear K
  clear t0 t1 v0 v1 u0 u1 h0 h1 m0 m1 q0 q1 g0 g1 y0 y1 x0 x1 x20 x21 x10 x11 x00 x01
  rintro e y11 ⟨JA11, jn11, jc11, JB11, jm11, jk11, rfl, M1, M2, B1⟩
  have S := ((S.next B1).put M1).put M2
  clear M1 M2 B1
  obtain ⟨⟨c0, c1, c2, c3, c4⟩, -⟩ := S.cel
  go_upto_region 14 with fail
  have S := Fs.set (p := []) S (by omega) (by simp; omega) (.slice JA11 jn11 jc11) (.slice JB11 jm11 jk11)
  simp only [List.nil_append] at S
  clear c0 c1 c2 c3 c4 kv ku kh km kq kg ky kx kx2 kx1 kx0 kw
  generalize (y11.setCell ⟨z10, 0, none⟩ (.slice JA11 jn11 jc11)).setCell ⟨z10, 1, none⟩ (.slice JB11 jm11 jk11) = v11 at *
  obtain ⟨⟨t0, t1, -⟩, ⟨v0, v1, -⟩, ⟨u0, u1, -⟩, ⟨h0, h1, -⟩, ⟨m0, m1, -⟩, ⟨q0, q1, -⟩, ⟨g0, g1, -⟩, ⟨y0, y1, -⟩, ⟨x0, x1, -⟩, ⟨x20, x21, -⟩, ⟨x10, x11, -⟩, ⟨x00, x01, -⟩, -⟩ := S.cel
  go_wp2_with fail
  have K := same3_yes S.lie.2.2.2.2.2.2.2.2.2.2.2.2.2.2.2.2.2.2.2.2.2.1 S.lie.2.2.2.2.2.2.2.2.2.2.2.2.2.2.2.2.2.2.2.2.1 S.lie.2.2.2.2.2.2.2.2.2.2.2.2.2.2.2.2.2.2.2.1 S.lie.2.2.2.2.2.2.2.2.2.2.2.2.2.2.2.2.2.2.1
  refine K.mono ?_
  clear K
  clear t0 t1 v0 v1 u0 u1 h0 h1 m0 m1 q0 q1 g0 g1 y0 y1 x0 x1 x20 x21 x10 x11 x00 x01
  rintro e y12 ⟨rfl, B1⟩
  have S := S.next B1
  clear B1
  obtain ⟨⟨t0, t1, -⟩, ⟨v0, v1, -⟩, ⟨u0, u1, -⟩, ⟨h0, h1, -⟩, ⟨m0, m1, -⟩, ⟨q0, q1, -⟩, ⟨g0, g1, -⟩, ⟨y0, y1, -⟩, ⟨x0, x1, -⟩, ⟨x20, x21, -⟩, ⟨x10, x11, -⟩, ⟨x00, x01, -⟩, -⟩ := S.cel
  go_wp2_with fail
  have K := same3_yes S.lie.2.2.2.2.2.2.2.2.2.2.2.2.2.2.2.2.2.1 S.lie.2.2.2.2.2.2.2.2.2.2.2.2.2.2.2.2.1 S.lie.2.2.2.2.2.2.2.2.2.2.2.2.2.1 S.lie.2.2.2.2.2.2.2.2.2.2.2.2.1
  refine K.mono ?_
  clear K
  clear t0 t1 v0 v1 u0 u1 h0 h1 m0 m1 q0 q1 g0 g1 y0 y1 x0 x1 x20 x21 x10 x11 x00 x01
  rintro e y13 ⟨rfl, B1⟩
  have S := S.next B1
  clear B1
  obtain ⟨⟨t0, t1, -⟩, ⟨v0, v1, -⟩, ⟨u0, u1, -⟩, ⟨h0, h1, -⟩, ⟨m0, m1, -⟩, ⟨q0, q1, -⟩, ⟨g0, g1, -⟩, ⟨y0, y1, -⟩, ⟨x0, x1, -⟩, ⟨x20, x21, -⟩, ⟨x10, x11, -⟩, ⟨x00, x01, -⟩, -⟩ := S.cel
  go_wp2_with fail
  have K := same3_yes S.lie.2.2.2.2.2.2.2.2.2.2.2.1 S.lie.2.2.2.2.2.2.2.2.2.2.1 S.lie.2.2.2.2.2.2.2.2.2.1 S.lie.2.2.2.2.2.2.2.2.1
  refine K.mono ?_
  clear K
  clear t0 t1 v0 v1 u0 u1 h0 h1 m0 m1 q0 q1 g0 g1 y0 y1 x0 x1 x20 x21 x10 x11 x00 x01
  rintro e y14 ⟨rfl, B1⟩
  have S := S.next B1
  clear B1
  obtain ⟨⟨t0, t1, -⟩, ⟨v0, v1, -⟩, ⟨u0, u1, -⟩, ⟨h0, h1, -⟩, ⟨m0, m1, -⟩, ⟨q0, q1, -⟩, ⟨g0, g1, -⟩, ⟨y0, y1, -⟩, ⟨x0, x1, -⟩, ⟨x20, x21, -⟩, ⟨x10, x11, -⟩, ⟨x00, x01, -⟩, -⟩ := S.cel
  go_wp2_with fail
  have K := same3_yes S.lie.2.2.2.2.2.2.2.1 S.lie.2.2.2.2.2.2.1 S.lie.2.1 S.lie.1
  refine K.mono ?_
  clear K
  clear t0 t1 v0 v1 u0 u1 h0 h1 m0 m1 q0 q1 g0 g1 y0 y1 x0 x1 x20 x21 x10 x11 x00 x01
  rintro e y15 ⟨rfl, B1⟩
  have S := S.next B1
  clear B1
  obtain ⟨⟨t0, t1, -⟩, ⟨v0, v1, -⟩, ⟨u0, u1, -⟩, ⟨h0, h1, -⟩, ⟨m0, m1, -⟩, ⟨q0, q1, -⟩, ⟨g0, g1, -⟩, ⟨y0, y1, -⟩, ⟨x0, x1, -⟩, ⟨x20, x21, -⟩, ⟨x10, x11, -⟩, ⟨x00, x01, -⟩, -⟩ := S.cel
  go_wp2_with fail
  refine (awake3 _).mono ?_
  rintro e y16 ⟨rfl, B1⟩
  have S := S.next B1
  clear B1
  go_wp2_with fail
  go_ret
  exact ⟨rfl, S.bl⟩
theorem walk {A A' D D' E E' : Option Addr} {n c n' c' m k m' k' i j i' j' : Nat} {xs ys us vs gs hs : List Nat} {w : World} (h0 : Lim w A n c xs) (h0' : Lim w A' n' c' ys) (h1 : Lim w D m k us) (h1' : Lim w D' m' k' vs) (h2 : Lim w E i j gs) (h2' : Lim w E' i' j' hs) : Calls Tryd.prog 7 #[.agg #[.slice A n c, .slice A' n' c'], .agg #[.slice D m k, .slice D' m' k'], .agg #[.slice E i j, .slice E' i' j']] w fun e w' => e = .returned (.bool true) ∧ Below w.heap.size w w' := by
  by_cases f : ∀ t ∈ ([⟨A, n, c, xs, A', n', c', ys⟩, ⟨D, m, k, us, D', m', k', vs⟩, ⟨E, i, j, gs, E', i', j', hs⟩] : List It), t.Few
  · have g0 := f ⟨A, n, c, xs, A', n', c', ys⟩ (by simp)
    obtain ⟨f0, e0, e0'⟩ := num_few h0 h0' g0
    have g1 := f ⟨D, m, k, us, D', m', k', vs⟩ (by simp)
    obtain ⟨f1, e1, e1'⟩ := num_few h1 h1' g1
    have g2 := f ⟨E, i, j, gs, E', i', j', hs⟩ (by simp)
    obtain ⟨f2, e2, e2'⟩ := num_few h2 h2' g2
    exact main (e0 ▸ h0) (e0' ▸ h0') (e1 ▸ h1) (e1' ▸ h1') (e2 ▸ h2) (e2' ▸ h2') f0 f1 f2
  · exact notfew h0 h0' h1 h1' h2 h2' f

set_option maxRecDepth 100000 in
theorem lifted (os : Os) (started : os.Started) (H : Type) (enc : TypeId × Value → H) :
    ReturnsInHanded {} Tryd.checked os 7 .any (fun w args => (Rows.ratLawsSpec.pre enc Tryd.prog Tryd.f7 Rows.ratLawsRow.domain false w args ∧ laidMetH Tryd.prog Rows.ratLawsRow.laid w) ∧ sizedMet enc Tryd.prog Tryd.f7 (OpenSpec.ofChange Rows.ratLawsSpec) false w args)
      (Rows.ratLawsSpec.post enc Tryd.prog Tryd.f7 false true false false) := by
  refine returnsInHanded_of_change_and (C := Tryd.checked) (X := fun w _ => laidMetH Tryd.prog Rows.ratLawsRow.laid w) (fun _ _ _ hh h => h.of_heap hh) own started (by kernel_rfl) Tryd.func7
    (ChangeSpec.witness_shaped (enc := enc) (C := Tryd.checked) (os := os) (X := fun w _ => laidMetH Tryd.prog Rows.ratLawsRow.laid w) false (World.laidAll Tryd.prog os Rows.ratLawsRow.laid) #[.agg #[.slice none 0 0, .slice none 0 0], .agg #[.slice none 0 0, .slice none 0 0], .agg #[.slice none 0 0, .slice none 0 0]] 8 (World.laidAll_os _ _ _)
      (World.shaped_of_ZipB (by kernel_rfl) (by kernel_rfl)) (by kernel_rfl) (by kernel_rfl) (by kernel_rfl)
      (by rw [MakeChecks.laidMetH_plain _ _ _ (by kernel_rfl)]; exact laidMet_laidAll _ (by kernel_rfl) (by kernel_rfl))) ?_
  intro W base args ds gs before hval0 hW _ _ _ _
  have hval : ∀ (j : Nat) t v, Tryd.f7.params[j]? = some t → args[j]? = some v → Value.okWide Tryd.prog W .any base t v := hval0
  have hW' := hW
  obtain ⟨p, q, hA0, hV, rfl, _, _⟩ := hW
  have hA : DataW.TrodAll enc Tryd.prog W 0 (fun _ => true) true Tryd.f7.params.toList args.toList ds p := hA0
  rw [Tryd.params7] at hA hval
  obtain ⟨v0, v1, v2, d0, d1, d2, p0, p1, p2, rfl, rfl, rfl, h0t, h1t, h2t⟩ := trodAll_three hA
  obtain ⟨rfl, rfl⟩ := trodVars_none hV
  obtain ⟨⟨A, n, c, xs, A', n', c', ys⟩, rfl, h0, h0'⟩ := open_rat (hval 0 50 v0 rfl rfl) h0t
  obtain ⟨⟨D, m, k, us, D', m', k', vs⟩, rfl, h1, h1'⟩ := open_rat (hval 1 50 v1 rfl rfl) h1t
  obtain ⟨⟨E, i, j, gs, E', i', j', hs⟩, rfl, h2, h2'⟩ := open_rat (hval 2 50 v2 rfl rfl) h2t
  clear hA0 hval0
  simp only [List.append_nil] at hW'
  have hlt : ∀ x ∈ p0 ++ p1 ++ p2, x.block < W.heap.size := fun x hx => by simpa using hW'.lt x (by simpa using hx)
  refine (walk h0 h0' h1 h1' h2 h2').mono fun e W' ⟨he, hbl⟩ => ?_
  subst he
  refine ⟨_, rfl, post_args hW' (fun _ _ _ => trodAll_mk1 (shut_bool Tryd.underlying4 _)) ?_ (fun _ => rfl) hbl⟩
  have t0 := Below.trod laidOut readable_rat typed_rat h0t hbl (fun x hx => hlt x (List.mem_append_left _ (List.mem_append_left _ hx)))
  have t1 := Below.trod laidOut readable_rat typed_rat h1t hbl (fun x hx => hlt x (List.mem_append_left _ (List.mem_append_right _ hx)))
  have t2 := Below.trod laidOut readable_rat typed_rat h2t hbl (fun x hx => hlt x (List.mem_append_right _ hx))
  exact (List.append_assoc p0 p1 p2) ▸ trodAll_mk3 t0 t1 t2

theorem holds : Rows.RatLawsSaid :=
  OpenClaim.holds_of_wide 7 Tryd.f7 rfl rfl rfl rfl rfl rfl rfl ⟨rfl, rfl, rfl, rfl, rfl⟩ rfl rfl rfl rfl rfl (by kernel_rfl) Tryd.func7 (by kernel_rfl)
    (of_decide_eq_true (by kernel_rfl)) (by unfold Func.isWrapper; first | (rw [if_pos (by decide +kernel)]; kernel_rfl) | (rw [if_neg (by decide +kernel)]; exact ⟨rfl, rfl⟩))
    (fun os started H enc _ => lifted os started H enc)
theorem proved : Rows.RatLawsCardSaid :=
  Claim7.holds_tied_plain_at .later [] [.data, .pinned] true (true, "7bac054c24a4a5cdd971a304af75554519beee4c5270e6492823ef9c09dcec6f") false
    holds (fun _ h => by cases h) (by kernel_rfl) (fun _ h => by cases h) ratLaws_row_tie rfl ⟨rfl, rfl⟩ (by kernel_rfl) rfl
    (fun f fn hf hfn => by
      obtain rfl : f = 7 := Option.some.inj ((show Tryd.prog.funcNamed "samphire/samphirelaw03.RatLaws" = some 7 by kernel_rfl).symm.trans hf) |>.symm
      obtain rfl : fn = Tryd.f7 := (Option.some.inj (Tryd.func7.symm.trans hfn)).symm
      exact ⟨by kernel_rfl, fun j t ht => by
        rw [Tryd.params7] at ht
        rcases j with _ | _ | _ | j
        · obtain rfl : t = 50 := by simpa using ht.symm
          exact (show Tryd.prog.wantsStandIn 50 = false by kernel_rfl)
        · obtain rfl : t = 50 := by simpa using ht.symm
          exact (show Tryd.prog.wantsStandIn 50 = false by kernel_rfl)
        · obtain rfl : t = 50 := by simpa using ht.symm
          exact (show Tryd.prog.wantsStandIn 50 = false by kernel_rfl)
        · simp at ht⟩)
    (by kernel_rfl)
#print axioms proved
end Go.Proofs.YtnacokogihanoaaDoor.ratLaws
