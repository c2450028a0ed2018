/- The walks of rat: products, crossed, Cmp, Mul, Div. -/
import Derived.Test.YtdnikdocfbbkkaaDoorJ06
namespace Go.Proofs.YtdnikdocfbbkkaaDoor
open Go.RowKit
set_option linter.unusedVariables false
set_option linter.unusedSimpArgs false

/-- Two naturals and an error. -/
def RetP (x y : Nat) (t : Int) (w : World) (e : Ending) (w' : World) : Prop := ∃ A n c A' n' c', e = .returned (.tuple #[.slice A n c, .slice A' n' c', .int .i64 t]) ∧ Lim w' A n c (limbs x) ∧ Lim w' A' n' c' (limbs y) ∧ Below w.heap.size w w'
set_option maxHeartbeats 2000000 in
set_option maxRecDepth 100000 in
theorem products_yes {A A' D D' : Option Addr} {n c n' c' m k m' k' a b u v : Nat} {w : World} (ha : Lim w A n c (limbs a)) (ha' : Lim w A' n' c' (limbs b)) (hb : Lim w D m k (limbs u)) (hb' : Lim w D' m' k' (limbs v)) (la : ln a ≤ 64) (lb : ln b ≤ 64) (lu : ln u ≤ 64) (lv : ln v ≤ 64) (h1 : ln (a * b) ≤ 64) (h2 : ln (u * v) ≤ 64) : Calls Tryd.prog 89 #[.slice A n c, .slice A' n' c', .slice D m k, .slice D' m' k'] w fun e w' => RetP (a * b) (u * v) 0 w e w' := by
  have S := ((((Fs.start w).put ha).put ha').put hb).put hb'
  clear ha ha' hb hb'
  go_enter Tryd.func89, Tryd.ntmps89
  go_wp2_with fail
  have K := mul_any S.lie.2.2.2.1 S.lie.2.2.1 la lb
  rw [fitN_yes h1, fitE_yes h1] at K
  refine K.mono ?_
  clear K
  rintro e w1 ⟨A1, n1, c1, rfl, L1, B1⟩
  have S := (S.next B1).put L1
  clear L1 B1
  go_wp2_with fail
  have K := mul_any S.lie.2.2.1 S.lie.2.1 lu lv
  rw [fitN_yes h2, fitE_yes h2] at K
  refine K.mono ?_
  clear K
  rintro e w2 ⟨A2, n2, c2, rfl, L2, B2⟩
  have S := (S.next B2).put L2
  clear L2 B2
  go_wp2_with fail
  go_ret3
  exact ⟨_, _, _, _, _, _, rfl, S.lie.2.1, S.lie.1, S.bl⟩
set_option maxHeartbeats 2000000 in
set_option maxRecDepth 100000 in
theorem products_big1 {A A' D D' : Option Addr} {n c n' c' m k m' k' a b u v : Nat} {w : World} (ha : Lim w A n c (limbs a)) (ha' : Lim w A' n' c' (limbs b)) (hb : Lim w D m k (limbs u)) (hb' : Lim w D' m' k' (limbs v)) (la : ln a ≤ 64) (lb : ln b ≤ 64) (lu : ln u ≤ 64) (lv : ln v ≤ 64) (h1 : ¬ ln (a * b) ≤ 64) : Calls Tryd.prog 89 #[.slice A n c, .slice A' n' c', .slice D m k, .slice D' m' k'] w fun e w' => RetP 0 0 6 w e w' := by
  have S := ((((Fs.start w).put ha).put ha').put hb).put hb'
  clear ha ha' hb hb'
  go_enter Tryd.func89, Tryd.ntmps89
  go_wp2_with fail
  have K := mul_any S.lie.2.2.2.1 S.lie.2.2.1 la lb
  rw [fitN_no h1, fitE_no h1] at K
  refine K.mono ?_
  clear K
  rintro e w1 ⟨A1, n1, c1, rfl, L1, B1⟩
  have S := (S.next B1).put L1
  clear L1 B1
  go_wp2_with fail
  go_ret3
  exact ⟨_, _, _, _, _, _, rfl, by rw [limbs_zero]; exact Lim.none_ _ _ _ (by decide), by rw [limbs_zero]; exact Lim.none_ _ _ _ (by decide), S.bl⟩
set_option maxHeartbeats 2000000 in
set_option maxRecDepth 100000 in
theorem products_big2 {A A' D D' : Option Addr} {n c n' c' m k m' k' a b u v : Nat} {w : World} (ha : Lim w A n c (limbs a)) (ha' : Lim w A' n' c' (limbs b)) (hb : Lim w D m k (limbs u)) (hb' : Lim w D' m' k' (limbs v)) (la : ln a ≤ 64) (lb : ln b ≤ 64) (lu : ln u ≤ 64) (lv : ln v ≤ 64) (h1 : ln (a * b) ≤ 64) (h2 : ¬ ln (u * v) ≤ 64) : Calls Tryd.prog 89 #[.slice A n c, .slice A' n' c', .slice D m k, .slice D' m' k'] w fun e w' => RetP 0 0 6 w e w' := by
  have S := ((((Fs.start w).put ha).put ha').put hb).put hb'
  clear ha ha' hb hb'
  go_enter Tryd.func89, Tryd.ntmps89
  go_wp2_with fail
  have K := mul_any S.lie.2.2.2.1 S.lie.2.2.1 la lb
  rw [fitN_yes h1, fitE_yes h1] at K
  refine K.mono ?_
  clear K
  rintro e w1 ⟨A1, n1, c1, rfl, L1, B1⟩
  have S := (S.next B1).put L1
  clear L1 B1
  go_wp2_with fail
  have K := mul_any S.lie.2.2.1 S.lie.2.1 lu lv
  rw [fitN_no h2, fitE_no h2] at K
  refine K.mono ?_
  clear K
  rintro e w2 ⟨A2, n2, c2, rfl, L2, B2⟩
  have S := (S.next B2).put L2
  clear L2 B2
  go_wp2_with fail
  go_ret3
  exact ⟨_, _, _, _, _, _, rfl, by rw [limbs_zero]; exact Lim.none_ _ _ _ (by decide), by rw [limbs_zero]; exact Lim.none_ _ _ _ (by decide), S.bl⟩
theorem products_big {A A' D D' : Option Addr} {n c n' c' m k m' k' a b u v : Nat} {w : World} (ha : Lim w A n c (limbs a)) (ha' : Lim w A' n' c' (limbs b)) (hb : Lim w D m k (limbs u)) (hb' : Lim w D' m' k' (limbs v)) (la : ln a ≤ 64) (lb : ln b ≤ 64) (lu : ln u ≤ 64) (lv : ln v ≤ 64) (h : ¬ (ln (a * b) ≤ 64 ∧ ln (u * v) ≤ 64)) : Calls Tryd.prog 89 #[.slice A n c, .slice A' n' c', .slice D m k, .slice D' m' k'] w fun e w' => RetP 0 0 6 w e w' := by
  by_cases h1 : ln (a * b) ≤ 64
  · exact products_big2 ha ha' hb hb' la lb lu lv h1 fun h2 => h ⟨h1, h2⟩
  · exact products_big1 ha ha' hb hb' la lb lu lv h1
set_option maxHeartbeats 2000000 in
set_option maxRecDepth 100000 in
theorem crossed_of {A A' D D' : Option Addr} {n c n' c' m k m' k' : Nat} {p q p' q' : Nat} {x y : Nat} {t : Int} {w : World} (ha : Lim w A n c (limbs p)) (ha' : Lim w A' n' c' (limbs q)) (hb : Lim w D m k (limbs p')) (hb' : Lim w D' m' k' (limbs q')) (K : ∀ W, Lim W A n c (limbs p) → Lim W D' m' k' (limbs q') → Lim W D m k (limbs p') → Lim W A' n' c' (limbs q) → Calls Tryd.prog 89 #[.slice A n c, .slice D' m' k', .slice D m k, .slice A' n' c'] W fun e w' => RetP x y t W e w') : Calls Tryd.prog 91 #[.agg #[.slice A n c, .slice A' n' c'], .agg #[.slice D m k, .slice D' m' k']] w fun e w' => RetP x y t w e w' := by
  have K := Lib.hid K
  have S := (((((Fs.start w).put ha).put ha').put hb).put hb').box (.slice A n c) (.slice A' n' c') |>.box (.slice D m k) (.slice D' m' k')
  simp only [World.size_alloc] at S
  clear ha ha' hb hb'
  go_enter Tryd.func91, Tryd.ntmps91
  go_wp2_with fail
  generalize (w.alloc (.cells #[.slice A n c, .slice A' n' c'] 50)).alloc (.cells #[.slice D m k, .slice D' m' k'] 50) = w0 at *
  refine (K.out _ S.lie.2.2.2.1 S.lie.1 S.lie.2.1 S.lie.2.2.1).mono ?_
  rintro e w1 ⟨A1, n1, c1, A2, n2, c2, rfl, L1, L2, B9⟩
  have S := ((S.next B9).put L1).put L2
  clear B9 L1 L2
  go_wp2_with fail
  go_ret3
  exact ⟨_, _, _, _, _, _, rfl, S.lie.2.1, S.lie.1, S.bl⟩
theorem crossed_yes {A A' D D' : Option Addr} {n c n' c' m k m' k' : Nat} {p q p' q' : Nat} {w : World} (ha : Lim w A n c (limbs p)) (ha' : Lim w A' n' c' (limbs q)) (hb : Lim w D m k (limbs p')) (hb' : Lim w D' m' k' (limbs q')) (f : Fq p q) (g : Fq p' q') (h1 : ln (p * q') ≤ 64) (h2 : ln (p' * q) ≤ 64) : Calls Tryd.prog 91 #[.agg #[.slice A n c, .slice A' n' c'], .agg #[.slice D m k, .slice D' m' k']] w fun e w' => RetP (p * q') (p' * q) 0 w e w' :=
  crossed_of ha ha' hb hb' fun W l1 l2 l3 l4 => products_yes l1 l2 l3 l4 f.lp g.lq g.lp f.lq h1 h2
theorem crossed_big {A A' D D' : Option Addr} {n c n' c' m k m' k' : Nat} {p q p' q' : Nat} {w : World} (ha : Lim w A n c (limbs p)) (ha' : Lim w A' n' c' (limbs q)) (hb : Lim w D m k (limbs p')) (hb' : Lim w D' m' k' (limbs q')) (f : Fq p q) (g : Fq p' q') (h : ¬ (ln (p * q') ≤ 64 ∧ ln (p' * q) ≤ 64)) : Calls Tryd.prog 91 #[.agg #[.slice A n c, .slice A' n' c'], .agg #[.slice D m k, .slice D' m' k']] w fun e w' => RetP 0 0 6 w e w' :=
  crossed_of ha ha' hb hb' fun W l1 l2 l3 l4 => products_big l1 l2 l3 l4 f.lp g.lq g.lp f.lq h
set_option maxHeartbeats 2000000 in
set_option maxRecDepth 100000 in
theorem ratCmp_bad1 {A A' D D' : Option Addr} {n c n' c' m k m' k' : Nat} {xs ys us vs : List Nat} {w : World} (ha : Lim w A n c xs) (ha' : Lim w A' n' c' ys) (hb : Lim w D m k us) (hb' : Lim w D' m' k' vs) (f : ¬ Fr xs ys) : Calls Tryd.prog 43 #[.agg #[.slice A n c, .slice A' n' c'], .agg #[.slice D m k, .slice D' m' k']] w fun e w' => e = .returned (.tuple #[.int .i64 0, .int .i64 1]) ∧ Below w.heap.size w w' := by
  have S := (((((Fs.start w).put ha).put ha').put hb).put hb').box (.slice A n c) (.slice A' n' c') |>.box (.slice D m k) (.slice D' m' k')
  simp only [World.size_alloc] at S
  clear ha ha' hb hb'
  go_enter Tryd.func43, Tryd.ntmps43
  go_wp2_with fail
  generalize (w.alloc (.cells #[.slice A n c, .slice A' n' c'] 50)).alloc (.cells #[.slice D m k, .slice D' m' k'] 50) = w0 at *
  have K := ratRight_any (S.lie.2.2.2.1) (S.lie.2.2.1)
  rw [frB_no f] at K
  refine K.mono ?_
  clear K
  rintro e x1 ⟨rfl, B9⟩
  have S := S.next B9
  clear B9
  go_wp2_with fail
  go_ret2
  exact ⟨rfl, S.bl⟩
set_option maxHeartbeats 2000000 in
set_option maxRecDepth 100000 in
theorem ratCmp_bad2 {A A' D D' : Option Addr} {n c n' c' m k m' k' : Nat} {xs ys us vs : List Nat} {w : World} (ha : Lim w A n c xs) (ha' : Lim w A' n' c' ys) (hb : Lim w D m k us) (hb' : Lim w D' m' k' vs) (f : Fr xs ys) (g : ¬ Fr us vs) : Calls Tryd.prog 43 #[.agg #[.slice A n c, .slice A' n' c'], .agg #[.slice D m k, .slice D' m' k']] w fun e w' => e = .returned (.tuple #[.int .i64 0, .int .i64 1]) ∧ Below w.heap.size w w' := by
  have S := (((((Fs.start w).put ha).put ha').put hb).put hb').box (.slice A n c) (.slice A' n' c') |>.box (.slice D m k) (.slice D' m' k')
  simp only [World.size_alloc] at S
  clear ha ha' hb hb'
  go_enter Tryd.func43, Tryd.ntmps43
  go_wp2_with fail
  generalize (w.alloc (.cells #[.slice A n c, .slice A' n' c'] 50)).alloc (.cells #[.slice D m k, .slice D' m' k'] 50) = w0 at *
  have K := ratRight_any (S.lie.2.2.2.1) (S.lie.2.2.1)
  rw [frB_yes f] at K
  refine K.mono ?_
  clear K
  rintro e x1 ⟨rfl, B9⟩
  have S := S.next B9
  clear B9
  obtain ⟨⟨b0, b1, -⟩, ⟨a0, a1, -⟩, -⟩ := S.cel
  go_wp2_with fail
  clear b0 b1 a0 a1
  have K := ratRight_any (S.lie.2.1) (S.lie.1)
  rw [frB_no g] at K
  refine K.mono ?_
  clear K
  rintro e x2 ⟨rfl, B9⟩
  have S := S.next B9
  clear B9
  go_wp2_with fail
  go_ret2
  exact ⟨rfl, S.bl⟩
theorem ratCmp_bad {A A' D D' : Option Addr} {n c n' c' m k m' k' : Nat} {xs ys us vs : List Nat} {w : World} (ha : Lim w A n c xs) (ha' : Lim w A' n' c' ys) (hb : Lim w D m k us) (hb' : Lim w D' m' k' vs) (f : ¬ (Fr xs ys ∧ Fr us vs)) : Calls Tryd.prog 43 #[.agg #[.slice A n c, .slice A' n' c'], .agg #[.slice D m k, .slice D' m' k']] w fun e w' => e = .returned (.tuple #[.int .i64 0, .int .i64 1]) ∧ Below w.heap.size w w' := by
  by_cases h : Fr xs ys
  · exact ratCmp_bad2 ha ha' hb hb' h fun g => f ⟨h, g⟩
  · exact ratCmp_bad1 ha ha' hb hb' h
set_option maxHeartbeats 2000000 in
set_option maxRecDepth 100000 in
theorem ratCmp_yes {A A' D D' : Option Addr} {n c n' c' m k m' k' : Nat} {p q p' q' : Nat} {w : World} (ha : Lim w A n c (limbs p)) (ha' : Lim w A' n' c' (limbs q)) (hb : Lim w D m k (limbs p')) (hb' : Lim w D' m' k' (limbs q')) (f : Fq p q) (g : Fq p' q') (h1 : ln (p * q') ≤ 64) (h2 : ln (p' * q) ≤ 64) : Calls Tryd.prog 43 #[.agg #[.slice A n c, .slice A' n' c'], .agg #[.slice D m k, .slice D' m' k']] w fun e w' => e = .returned (.tuple #[.int .i64 (sgn (p * q') (p' * q)), .int .i64 0]) ∧ Below w.heap.size w w' := by
  have S := (((((Fs.start w).put ha).put ha').put hb).put hb').box (.slice A n c) (.slice A' n' c') |>.box (.slice D m k) (.slice D' m' k')
  simp only [World.size_alloc] at S
  clear ha ha' hb hb'
  go_enter Tryd.func43, Tryd.ntmps43
  go_wp2_with fail
  generalize (w.alloc (.cells #[.slice A n c, .slice A' n' c'] 50)).alloc (.cells #[.slice D m k, .slice D' m' k'] 50) = w0 at *
  have K := ratRight_any (S.lie.2.2.2.1) (S.lie.2.2.1)
  rw [frB_yes f.fr] at K
  refine K.mono ?_
  clear K
  rintro e x1 ⟨rfl, B9⟩
  have S := S.next B9
  clear B9
  obtain ⟨⟨b0, b1, -⟩, ⟨a0, a1, -⟩, -⟩ := S.cel
  go_wp2_with fail
  clear b0 b1 a0 a1
  have K := ratRight_any (S.lie.2.1) (S.lie.1)
  rw [frB_yes g.fr] at K
  refine K.mono ?_
  clear K
  rintro e x2 ⟨rfl, B9⟩
  have S := S.next B9
  clear B9
  obtain ⟨⟨b0, b1, -⟩, ⟨a0, a1, -⟩, -⟩ := S.cel
  go_wp2_with fail
  clear b0 b1 a0 a1
  refine (crossed_yes S.lie.2.2.2.1 S.lie.2.2.1 S.lie.2.1 S.lie.1 f g h1 h2).mono ?_
  rintro e x3 ⟨A1, n1, c1, A2, n2, c2, rfl, L1, L2, B9⟩
  have S := ((S.next B9).put L1).put L2
  clear B9 L1 L2
  go_wp2_with fail
  refine (cmp_bel S.lie.2.1 S.lie.1 h1 h2).mono ?_
  rintro e x4 ⟨rfl, B9⟩
  have S := S.next B9
  clear B9
  go_wp2_with fail
  go_ret2
  exact ⟨rfl, S.bl⟩
set_option maxHeartbeats 2000000 in
set_option maxRecDepth 100000 in
theorem ratCmp_big {A A' D D' : Option Addr} {n c n' c' m k m' k' : Nat} {p q p' q' : Nat} {w : World} (ha : Lim w A n c (limbs p)) (ha' : Lim w A' n' c' (limbs q)) (hb : Lim w D m k (limbs p')) (hb' : Lim w D' m' k' (limbs q')) (f : Fq p q) (g : Fq p' q') (h : ¬ (ln (p * q') ≤ 64 ∧ ln (p' * q) ≤ 64)) : Calls Tryd.prog 43 #[.agg #[.slice A n c, .slice A' n' c'], .agg #[.slice D m k, .slice D' m' k']] w fun e w' => e = .returned (.tuple #[.int .i64 0, .int .i64 6]) ∧ Below w.heap.size w w' := by
  have S := (((((Fs.start w).put ha).put ha').put hb).put hb').box (.slice A n c) (.slice A' n' c') |>.box (.slice D m k) (.slice D' m' k')
  simp only [World.size_alloc] at S
  clear ha ha' hb hb'
  go_enter Tryd.func43, Tryd.ntmps43
  go_wp2_with fail
  generalize (w.alloc (.cells #[.slice A n c, .slice A' n' c'] 50)).alloc (.cells #[.slice D m k, .slice D' m' k'] 50) = w0 at *
  have K := ratRight_any (S.lie.2.2.2.1) (S.lie.2.2.1)
  rw [frB_yes f.fr] at K
  refine K.mono ?_
  clear K
  rintro e x1 ⟨rfl, B9⟩
  have S := S.next B9
  clear B9
  obtain ⟨⟨b0, b1, -⟩, ⟨a0, a1, -⟩, -⟩ := S.cel
  go_wp2_with fail
  clear b0 b1 a0 a1
  have K := ratRight_any (S.lie.2.1) (S.lie.1)
  rw [frB_yes g.fr] at K
  refine K.mono ?_
  clear K
  rintro e x2 ⟨rfl, B9⟩
  have S := S.next B9
  clear B9
  obtain ⟨⟨b0, b1, -⟩, ⟨a0, a1, -⟩, -⟩ := S.cel
  go_wp2_with fail
  clear b0 b1 a0 a1
  refine (crossed_big S.lie.2.2.2.1 S.lie.2.2.1 S.lie.2.1 S.lie.1 f g h).mono ?_
  rintro e x3 ⟨A1, n1, c1, A2, n2, c2, rfl, L1, L2, B9⟩
  have S := ((S.next B9).put L1).put L2
  clear B9 L1 L2
  go_wp2_with fail
  go_ret2
  exact ⟨rfl, S.bl⟩
set_option maxHeartbeats 2000000 in
set_option maxRecDepth 100000 in
theorem ratMul_bad1 {A A' D D' : Option Addr} {n c n' c' m k m' k' : Nat} {xs ys us vs : List Nat} {w : World} (ha : Lim w A n c xs) (ha' : Lim w A' n' c' ys) (hb : Lim w D m k us) (hb' : Lim w D' m' k' vs) (f : ¬ Fr xs ys) : Calls Tryd.prog 41 #[.agg #[.slice A n c, .slice A' n' c'], .agg #[.slice D m k, .slice D' m' k']] w fun e w' => RetA3 (0, 0, 1) w e w' := by
  have S := (((((Fs.start w).put ha).put ha').put hb).put hb').box (.slice A n c) (.slice A' n' c') |>.box (.slice D m k) (.slice D' m' k') |>.box (.slice none 0 0) (.slice none 0 0)
  simp only [World.size_alloc] at S
  clear ha ha' hb hb'
  go_enter Tryd.func41, Tryd.ntmps41
  go_wp2_with fail
  generalize ((w.alloc (.cells #[.slice A n c, .slice A' n' c'] 50)).alloc (.cells #[.slice D m k, .slice D' m' k'] 50)).alloc (.cells #[.slice none 0 0, .slice none 0 0] 50) = w0 at *
  have K := ratRight_any (S.lie.2.2.2.1) (S.lie.2.2.1)
  rw [frB_no f] at K
  refine K.mono ?_
  clear K
  rintro e x1 ⟨rfl, B9⟩
  have S := S.next B9
  clear B9
  obtain ⟨⟨r0, r1, q0, q1, rz⟩, ⟨b0, b1, -⟩, ⟨a0, a1, -⟩, -⟩ := S.cel
  go_wp2_with fail
  go_light
  exact bodyPost_ret (v := .tuple #[.agg #[.slice none 0 0, .slice none 0 0], .int .i64 1]) (by simp [results, Tryd.results41, go_sem, r0, r1]) rfl ⟨_, _, _, _, _, _, rfl, by rw [limbs_zero]; exact Lim.none_ _ _ _ (by decide), by rw [limbs_zero]; exact Lim.none_ _ _ _ (by decide), (S.bl.setCell (by simp only []; omega) _).setCell (by simp only []; omega) _⟩
set_option maxHeartbeats 2000000 in
set_option maxRecDepth 100000 in
theorem ratMul_bad2 {A A' D D' : Option Addr} {n c n' c' m k m' k' : Nat} {xs ys us vs : List Nat} {w : World} (ha : Lim w A n c xs) (ha' : Lim w A' n' c' ys) (hb : Lim w D m k us) (hb' : Lim w D' m' k' vs) (f : Fr xs ys) (g : ¬ Fr us vs) : Calls Tryd.prog 41 #[.agg #[.slice A n c, .slice A' n' c'], .agg #[.slice D m k, .slice D' m' k']] w fun e w' => RetA3 (0, 0, 1) w e w' := by
  have S := (((((Fs.start w).put ha).put ha').put hb).put hb').box (.slice A n c) (.slice A' n' c') |>.box (.slice D m k) (.slice D' m' k') |>.box (.slice none 0 0) (.slice none 0 0)
  simp only [World.size_alloc] at S
  clear ha ha' hb hb'
  go_enter Tryd.func41, Tryd.ntmps41
  go_wp2_with fail
  generalize ((w.alloc (.cells #[.slice A n c, .slice A' n' c'] 50)).alloc (.cells #[.slice D m k, .slice D' m' k'] 50)).alloc (.cells #[.slice none 0 0, .slice none 0 0] 50) = w0 at *
  have K := ratRight_any (S.lie.2.2.2.1) (S.lie.2.2.1)
  rw [frB_yes f] at K
  refine K.mono ?_
  clear K
  rintro e x1 ⟨rfl, B9⟩
  have S := S.next B9
  clear B9
  obtain ⟨⟨r0, r1, q0, q1, rz⟩, ⟨b0, b1, -⟩, ⟨a0, a1, -⟩, -⟩ := S.cel
  go_wp2_with fail
  clear r0 r1 q0 q1 rz b0 b1 a0 a1
  have K := ratRight_any (S.lie.2.1) (S.lie.1)
  rw [frB_no g] at K
  refine K.mono ?_
  clear K
  rintro e x2 ⟨rfl, B9⟩
  have S := S.next B9
  clear B9
  obtain ⟨⟨r0, r1, q0, q1, rz⟩, ⟨b0, b1, -⟩, ⟨a0, a1, -⟩, -⟩ := S.cel
  go_wp2_with fail
  go_light
  exact bodyPost_ret (v := .tuple #[.agg #[.slice none 0 0, .slice none 0 0], .int .i64 1]) (by simp [results, Tryd.results41, go_sem, r0, r1]) rfl ⟨_, _, _, _, _, _, rfl, by rw [limbs_zero]; exact Lim.none_ _ _ _ (by decide), by rw [limbs_zero]; exact Lim.none_ _ _ _ (by decide), (S.bl.setCell (by simp only []; omega) _).setCell (by simp only []; omega) _⟩
theorem ratMul_bad {A A' D D' : Option Addr} {n c n' c' m k m' k' : Nat} {xs ys us vs : List Nat} {w : World} (ha : Lim w A n c xs) (ha' : Lim w A' n' c' ys) (hb : Lim w D m k us) (hb' : Lim w D' m' k' vs) (f : ¬ (Fr xs ys ∧ Fr us vs)) : Calls Tryd.prog 41 #[.agg #[.slice A n c, .slice A' n' c'], .agg #[.slice D m k, .slice D' m' k']] w fun e w' => RetA3 (0, 0, 1) w e w' := by
  by_cases h : Fr xs ys
  · exact ratMul_bad2 ha ha' hb hb' h fun g => f ⟨h, g⟩
  · exact ratMul_bad1 ha ha' hb hb' h
/-- The fraction of two numbers, reduced. -/
def red (x y : Nat) : Ans := (x / Nat.gcd x y, y / Nat.gcd x y, 0)
set_option maxHeartbeats 2000000 in
set_option maxRecDepth 100000 in
theorem ratMul_yes {A A' D D' : Option Addr} {n c n' c' m k m' k' : Nat} {p q p' q' : Nat} {w : World} (ha : Lim w A n c (limbs p)) (ha' : Lim w A' n' c' (limbs q)) (hb : Lim w D m k (limbs p')) (hb' : Lim w D' m' k' (limbs q')) (f : Fq p q) (g : Fq p' q') (h1 : ln (p * p') ≤ 64) (h2 : ln (q * q') ≤ 64) : Calls Tryd.prog 41 #[.agg #[.slice A n c, .slice A' n' c'], .agg #[.slice D m k, .slice D' m' k']] w fun e w' => RetA3 (red (p * p') (q * q')) w e w' := by
  have S := (((((Fs.start w).put ha).put ha').put hb).put hb').box (.slice A n c) (.slice A' n' c') |>.box (.slice D m k) (.slice D' m' k') |>.box (.slice none 0 0) (.slice none 0 0)
  simp only [World.size_alloc] at S
  clear ha ha' hb hb'
  go_enter Tryd.func41, Tryd.ntmps41
  go_wp2_with fail
  generalize ((w.alloc (.cells #[.slice A n c, .slice A' n' c'] 50)).alloc (.cells #[.slice D m k, .slice D' m' k'] 50)).alloc (.cells #[.slice none 0 0, .slice none 0 0] 50) = w0 at *
  have K := ratRight_any (S.lie.2.2.2.1) (S.lie.2.2.1)
  rw [frB_yes f.fr] at K
  refine K.mono ?_
  clear K
  rintro e x1 ⟨rfl, B9⟩
  have S := S.next B9
  clear B9
  obtain ⟨⟨r0, r1, q0, q1, rz⟩, ⟨b0, b1, -⟩, ⟨a0, a1, -⟩, -⟩ := S.cel
  go_wp2_with fail
  clear r0 r1 q0 q1 rz b0 b1 a0 a1
  have K := ratRight_any (S.lie.2.1) (S.lie.1)
  rw [frB_yes g.fr] at K
  refine K.mono ?_
  clear K
  rintro e x2 ⟨rfl, B9⟩
  have S := S.next B9
  clear B9
  obtain ⟨⟨r0, r1, q0, q1, rz⟩, ⟨b0, b1, -⟩, ⟨a0, a1, -⟩, -⟩ := S.cel
  go_wp2_with fail
  clear r0 r1 q0 q1 rz b0 b1 a0 a1
  refine (products_yes S.lie.2.2.2.1 S.lie.2.1 S.lie.2.2.1 S.lie.1 f.lp g.lp f.lq g.lq h1 h2).mono ?_
  rintro e x3 ⟨A1, n1, c1, A2, n2, c2, rfl, L1, L2, B9⟩
  have S := ((S.next B9).put L1).put L2
  clear B9 L1 L2
  go_wp2_with fail
  refine (reduced_any S.lie.2.1 S.lie.1 h1 h2 (Nat.mul_ne_zero f.q0 g.q0)).mono ?_
  rintro e x4 ⟨A3, n3, c3, A4, n4, c4, rfl, L3, L4, B9⟩
  have S := ((S.next B9).put L3).put L4
  clear B9 L3 L4
  obtain ⟨⟨r0, r1, q0, q1, rz⟩, ⟨b0, b1, -⟩, ⟨a0, a1, -⟩, -⟩ := S.cel
  go_wp2_with fail
  go_light
  exact bodyPost_ret (v := .tuple #[.agg #[.slice A3 n3 c3, .slice A4 n4 c4], .int .i64 0]) (by simp [results, Tryd.results41, go_sem, r0, r1]) rfl ⟨_, _, _, _, _, _, rfl, S.lie.2.1.put2 r0 r1 _ _, S.lie.1.put2 r0 r1 _ _, (S.bl.setCell (by simp only []; omega) _).setCell (by simp only []; omega) _⟩
set_option maxHeartbeats 2000000 in
set_option maxRecDepth 100000 in
theorem ratMul_big {A A' D D' : Option Addr} {n c n' c' m k m' k' : Nat} {p q p' q' : Nat} {w : World} (ha : Lim w A n c (limbs p)) (ha' : Lim w A' n' c' (limbs q)) (hb : Lim w D m k (limbs p')) (hb' : Lim w D' m' k' (limbs q')) (f : Fq p q) (g : Fq p' q') (h : ¬ (ln (p * p') ≤ 64 ∧ ln (q * q') ≤ 64)) : Calls Tryd.prog 41 #[.agg #[.slice A n c, .slice A' n' c'], .agg #[.slice D m k, .slice D' m' k']] w fun e w' => RetA3 (0, 0, 6) w e w' := by
  have S := (((((Fs.start w).put ha).put ha').put hb).put hb').box (.slice A n c) (.slice A' n' c') |>.box (.slice D m k) (.slice D' m' k') |>.box (.slice none 0 0) (.slice none 0 0)
  simp only [World.size_alloc] at S
  clear ha ha' hb hb'
  go_enter Tryd.func41, Tryd.ntmps41
  go_wp2_with fail
  generalize ((w.alloc (.cells #[.slice A n c, .slice A' n' c'] 50)).alloc (.cells #[.slice D m k, .slice D' m' k'] 50)).alloc (.cells #[.slice none 0 0, .slice none 0 0] 50) = w0 at *
  have K := ratRight_any (S.lie.2.2.2.1) (S.lie.2.2.1)
  rw [frB_yes f.fr] at K
  refine K.mono ?_
  clear K
  rintro e x1 ⟨rfl, B9⟩
  have S := S.next B9
  clear B9
  obtain ⟨⟨r0, r1, q0, q1, rz⟩, ⟨b0, b1, -⟩, ⟨a0, a1, -⟩, -⟩ := S.cel
  go_wp2_with fail
  clear r0 r1 q0 q1 rz b0 b1 a0 a1
  have K := ratRight_any (S.lie.2.1) (S.lie.1)
  rw [frB_yes g.fr] at K
  refine K.mono ?_
  clear K
  rintro e x2 ⟨rfl, B9⟩
  have S := S.next B9
  clear B9
  obtain ⟨⟨r0, r1, q0, q1, rz⟩, ⟨b0, b1, -⟩, ⟨a0, a1, -⟩, -⟩ := S.cel
  go_wp2_with fail
  clear r0 r1 q0 q1 rz b0 b1 a0 a1
  refine (products_big S.lie.2.2.2.1 S.lie.2.1 S.lie.2.2.1 S.lie.1 f.lp g.lp f.lq g.lq h).mono ?_
  rintro e x3 ⟨A1, n1, c1, A2, n2, c2, rfl, L1, L2, B9⟩
  have S := ((S.next B9).put L1).put L2
  clear B9 L1 L2
  obtain ⟨⟨r0, r1, q0, q1, rz⟩, ⟨b0, b1, -⟩, ⟨a0, a1, -⟩, -⟩ := S.cel
  go_wp2_with fail
  go_light
  exact bodyPost_ret (v := .tuple #[.agg #[.slice none 0 0, .slice none 0 0], .int .i64 6]) (by simp [results, Tryd.results41, go_sem, r0, r1]) rfl ⟨_, _, _, _, _, _, rfl, by rw [limbs_zero]; exact Lim.none_ _ _ _ (by decide), by rw [limbs_zero]; exact Lim.none_ _ _ _ (by decide), (S.bl.setCell (by simp only []; omega) _).setCell (by simp only []; omega) _⟩
set_option maxHeartbeats 2000000 in
set_option maxRecDepth 100000 in
theorem ratDiv_bad1 {A A' D D' : Option Addr} {n c n' c' m k m' k' : Nat} {xs ys us vs : List Nat} {w : World} (ha : Lim w A n c xs) (ha' : Lim w A' n' c' ys) (hb : Lim w D m k us) (hb' : Lim w D' m' k' vs) (f : ¬ Fr xs ys) : Calls Tryd.prog 42 #[.agg #[.slice A n c, .slice A' n' c'], .agg #[.slice D m k, .slice D' m' k']] w fun e w' => RetA3 (0, 0, 1) w e w' := by
  have S := (((((Fs.start w).put ha).put ha').put hb).put hb').box (.slice A n c) (.slice A' n' c') |>.box (.slice D m k) (.slice D' m' k') |>.box (.slice none 0 0) (.slice none 0 0)
  simp only [World.size_alloc] at S
  clear ha ha' hb hb'
  go_enter Tryd.func42, Tryd.ntmps42
  go_wp2_with fail
  generalize ((w.alloc (.cells #[.slice A n c, .slice A' n' c'] 50)).alloc (.cells #[.slice D m k, .slice D' m' k'] 50)).alloc (.cells #[.slice none 0 0, .slice none 0 0] 50) = w0 at *
  have K := ratRight_any (S.lie.2.2.2.1) (S.lie.2.2.1)
  rw [frB_no f] at K
  refine K.mono ?_
  clear K
  rintro e x1 ⟨rfl, B9⟩
  have S := S.next B9
  clear B9
  obtain ⟨⟨r0, r1, q0, q1, rz⟩, ⟨b0, b1, -⟩, ⟨a0, a1, -⟩, -⟩ := S.cel
  go_wp2_with fail
  go_light
  exact bodyPost_ret (v := .tuple #[.agg #[.slice none 0 0, .slice none 0 0], .int .i64 1]) (by simp [results, Tryd.results42, go_sem, r0, r1]) rfl ⟨_, _, _, _, _, _, rfl, by rw [limbs_zero]; exact Lim.none_ _ _ _ (by decide), by rw [limbs_zero]; exact Lim.none_ _ _ _ (by decide), (S.bl.setCell (by simp only []; omega) _).setCell (by simp only []; omega) _⟩
set_option maxHeartbeats 2000000 in
set_option maxRecDepth 100000 in
theorem ratDiv_bad2 {A A' D D' : Option Addr} {n c n' c' m k m' k' : Nat} {xs ys us vs : List Nat} {w : World} (ha : Lim w A n c xs) (ha' : Lim w A' n' c' ys) (hb : Lim w D m k us) (hb' : Lim w D' m' k' vs) (f : Fr xs ys) (g : ¬ Fr us vs) : Calls Tryd.prog 42 #[.agg #[.slice A n c, .slice A' n' c'], .agg #[.slice D m k, .slice D' m' k']] w fun e w' => RetA3 (0, 0, 1) w e w' := by
  have S := (((((Fs.start w).put ha).put ha').put hb).put hb').box (.slice A n c) (.slice A' n' c') |>.box (.slice D m k) (.slice D' m' k') |>.box (.slice none 0 0) (.slice none 0 0)
  simp only [World.size_alloc] at S
  clear ha ha' hb hb'
  go_enter Tryd.func42, Tryd.ntmps42
  go_wp2_with fail
  generalize ((w.alloc (.cells #[.slice A n c, .slice A' n' c'] 50)).alloc (.cells #[.slice D m k, .slice D' m' k'] 50)).alloc (.cells #[.slice none 0 0, .slice none 0 0] 50) = w0 at *
  have K := ratRight_any (S.lie.2.2.2.1) (S.lie.2.2.1)
  rw [frB_yes f] at K
  refine K.mono ?_
  clear K
  rintro e x1 ⟨rfl, B9⟩
  have S := S.next B9
  clear B9
  obtain ⟨⟨r0, r1, q0, q1, rz⟩, ⟨b0, b1, -⟩, ⟨a0, a1, -⟩, -⟩ := S.cel
  go_wp2_with fail
  clear r0 r1 q0 q1 rz b0 b1 a0 a1
  have K := ratRight_any (S.lie.2.1) (S.lie.1)
  rw [frB_no g] at K
  refine K.mono ?_
  clear K
  rintro e x2 ⟨rfl, B9⟩
  have S := S.next B9
  clear B9
  obtain ⟨⟨r0, r1, q0, q1, rz⟩, ⟨b0, b1, -⟩, ⟨a0, a1, -⟩, -⟩ := S.cel
  go_wp2_with fail
  go_light
  exact bodyPost_ret (v := .tuple #[.agg #[.slice none 0 0, .slice none 0 0], .int .i64 1]) (by simp [results, Tryd.results42, go_sem, r0, r1]) rfl ⟨_, _, _, _, _, _, rfl, by rw [limbs_zero]; exact Lim.none_ _ _ _ (by decide), by rw [limbs_zero]; exact Lim.none_ _ _ _ (by decide), (S.bl.setCell (by simp only []; omega) _).setCell (by simp only []; omega) _⟩
theorem ratDiv_bad {A A' D D' : Option Addr} {n c n' c' m k m' k' : Nat} {xs ys us vs : List Nat} {w : World} (ha : Lim w A n c xs) (ha' : Lim w A' n' c' ys) (hb : Lim w D m k us) (hb' : Lim w D' m' k' vs) (f : ¬ (Fr xs ys ∧ Fr us vs)) : Calls Tryd.prog 42 #[.agg #[.slice A n c, .slice A' n' c'], .agg #[.slice D m k, .slice D' m' k']] w fun e w' => RetA3 (0, 0, 1) w e w' := by
  by_cases h : Fr xs ys
  · exact ratDiv_bad2 ha ha' hb hb' h fun g => f ⟨h, g⟩
  · exact ratDiv_bad1 ha ha' hb hb' h
set_option maxHeartbeats 2000000 in
set_option maxRecDepth 100000 in
theorem ratDiv_yes {A A' D D' : Option Addr} {n c n' c' m k m' k' : Nat} {p q p' q' : Nat} {w : World} (ha : Lim w A n c (limbs p)) (ha' : Lim w A' n' c' (limbs q)) (hb : Lim w D m k (limbs p')) (hb' : Lim w D' m' k' (limbs q')) (f : Fq p q) (g : Fq p' q') (z : p' ≠ 0) (h1 : ln (p * q') ≤ 64) (h2 : ln (p' * q) ≤ 64) : Calls Tryd.prog 42 #[.agg #[.slice A n c, .slice A' n' c'], .agg #[.slice D m k, .slice D' m' k']] w fun e w' => RetA3 (red (p * q') (p' * q)) w e w' := by
  have hm := hb.len
  rw [limbs_length] at hm
  have hm0 := ln_pos z
  have i0 : ((m : Int) == 0) = false := by simp; omega
  clear hm hm0
  have S := (((((Fs.start w).put ha).put ha').put hb).put hb').box (.slice A n c) (.slice A' n' c') |>.box (.slice D m k) (.slice D' m' k') |>.box (.slice none 0 0) (.slice none 0 0)
  simp only [World.size_alloc] at S
  clear ha ha' hb hb'
  go_enter Tryd.func42, Tryd.ntmps42
  go_wp2_with fail
  generalize ((w.alloc (.cells #[.slice A n c, .slice A' n' c'] 50)).alloc (.cells #[.slice D m k, .slice D' m' k'] 50)).alloc (.cells #[.slice none 0 0, .slice none 0 0] 50) = w0 at *
  have K := ratRight_any (S.lie.2.2.2.1) (S.lie.2.2.1)
  rw [frB_yes f.fr] at K
  refine K.mono ?_
  clear K
  rintro e x1 ⟨rfl, B9⟩
  have S := S.next B9
  clear B9
  obtain ⟨⟨r0, r1, q0, q1, rz⟩, ⟨b0, b1, -⟩, ⟨a0, a1, -⟩, -⟩ := S.cel
  go_wp2_with fail
  clear r0 r1 q0 q1 rz b0 b1 a0 a1
  have K := ratRight_any (S.lie.2.1) (S.lie.1)
  rw [frB_yes g.fr] at K
  refine K.mono ?_
  clear K
  rintro e x2 ⟨rfl, B9⟩
  have S := S.next B9
  clear B9
  obtain ⟨⟨r0, r1, q0, q1, rz⟩, ⟨b0, b1, -⟩, ⟨a0, a1, -⟩, -⟩ := S.cel
  go_wp2_with fail
  clear r0 r1 q0 q1 rz b0 b1 a0 a1
  refine (crossed_yes S.lie.2.2.2.1 S.lie.2.2.1 S.lie.2.1 S.lie.1 f g h1 h2).mono ?_
  rintro e x3 ⟨A1, n1, c1, A2, n2, c2, rfl, L1, L2, B9⟩
  have S := ((S.next B9).put L1).put L2
  clear B9 L1 L2
  go_wp2_with fail
  refine (reduced_any S.lie.2.1 S.lie.1 h1 h2 (Nat.mul_ne_zero z f.q0)).mono ?_
  rintro e x4 ⟨A3, n3, c3, A4, n4, c4, rfl, L3, L4, B9⟩
  have S := ((S.next B9).put L3).put L4
  clear B9 L3 L4
  obtain ⟨⟨r0, r1, q0, q1, rz⟩, ⟨b0, b1, -⟩, ⟨a0, a1, -⟩, -⟩ := S.cel
  go_wp2_with fail
  go_light
  exact bodyPost_ret (v := .tuple #[.agg #[.slice A3 n3 c3, .slice A4 n4 c4], .int .i64 0]) (by simp [results, Tryd.results42, go_sem, r0, r1]) rfl ⟨_, _, _, _, _, _, rfl, S.lie.2.1.put2 r0 r1 _ _, S.lie.1.put2 r0 r1 _ _, (S.bl.setCell (by simp only []; omega) _).setCell (by simp only []; omega) _⟩
set_option maxHeartbeats 2000000 in
set_option maxRecDepth 100000 in
theorem ratDiv_big {A A' D D' : Option Addr} {n c n' c' m k m' k' : Nat} {p q p' q' : Nat} {w : World} (ha : Lim w A n c (limbs p)) (ha' : Lim w A' n' c' (limbs q)) (hb : Lim w D m k (limbs p')) (hb' : Lim w D' m' k' (limbs q')) (f : Fq p q) (g : Fq p' q') (z : p' ≠ 0) (h : ¬ (ln (p * q') ≤ 64 ∧ ln (p' * q) ≤ 64)) : Calls Tryd.prog 42 #[.agg #[.slice A n c, .slice A' n' c'], .agg #[.slice D m k, .slice D' m' k']] w fun e w' => RetA3 (0, 0, 6) w e w' := by
  have hm := hb.len
  rw [limbs_length] at hm
  have hm0 := ln_pos z
  have i0 : ((m : Int) == 0) = false := by simp; omega
  clear hm hm0
  have S := (((((Fs.start w).put ha).put ha').put hb).put hb').box (.slice A n c) (.slice A' n' c') |>.box (.slice D m k) (.slice D' m' k') |>.box (.slice none 0 0) (.slice none 0 0)
  simp only [World.size_alloc] at S
  clear ha ha' hb hb'
  go_enter Tryd.func42, Tryd.ntmps42
  go_wp2_with fail
  generalize ((w.alloc (.cells #[.slice A n c, .slice A' n' c'] 50)).alloc (.cells #[.slice D m k, .slice D' m' k'] 50)).alloc (.cells #[.slice none 0 0, .slice none 0 0] 50) = w0 at *
  have K := ratRight_any (S.lie.2.2.2.1) (S.lie.2.2.1)
  rw [frB_yes f.fr] at K
  refine K.mono ?_
  clear K
  rintro e x1 ⟨rfl, B9⟩
  have S := S.next B9
  clear B9
  obtain ⟨⟨r0, r1, q0, q1, rz⟩, ⟨b0, b1, -⟩, ⟨a0, a1, -⟩, -⟩ := S.cel
  go_wp2_with fail
  clear r0 r1 q0 q1 rz b0 b1 a0 a1
  have K := ratRight_any (S.lie.2.1) (S.lie.1)
  rw [frB_yes g.fr] at K
  refine K.mono ?_
  clear K
  rintro e x2 ⟨rfl, B9⟩
  have S := S.next B9
  clear B9
  obtain ⟨⟨r0, r1, q0, q1, rz⟩, ⟨b0, b1, -⟩, ⟨a0, a1, -⟩, -⟩ := S.cel
  go_wp2_with fail
  clear r0 r1 q0 q1 rz b0 b1 a0 a1
  refine (crossed_big S.lie.2.2.2.1 S.lie.2.2.1 S.lie.2.1 S.lie.1 f g h).mono ?_
  rintro e x3 ⟨A1, n1, c1, A2, n2, c2, rfl, L1, L2, B9⟩
  have S := ((S.next B9).put L1).put L2
  clear B9 L1 L2
  obtain ⟨⟨r0, r1, q0, q1, rz⟩, ⟨b0, b1, -⟩, ⟨a0, a1, -⟩, -⟩ := S.cel
  go_wp2_with fail
  go_light
  exact bodyPost_ret (v := .tuple #[.agg #[.slice none 0 0, .slice none 0 0], .int .i64 6]) (by simp [results, Tryd.results42, go_sem, r0, r1]) rfl ⟨_, _, _, _, _, _, rfl, by rw [limbs_zero]; exact Lim.none_ _ _ _ (by decide), by rw [limbs_zero]; exact Lim.none_ _ _ _ (by decide), (S.bl.setCell (by simp only []; omega) _).setCell (by simp only []; omega) _⟩
set_option maxHeartbeats 2000000 in
set_option maxRecDepth 100000 in
theorem ratDiv_zero {A A' D D' : Option Addr} {n c n' c' k m' k' : Nat} {p q q' : Nat} {w : World} (ha : Lim w A n c (limbs p)) (ha' : Lim w A' n' c' (limbs q)) (hb : Lim w D 0 k (limbs 0)) (hb' : Lim w D' m' k' (limbs q')) (f : Fq p q) (g : Fq 0 q') : Calls Tryd.prog 42 #[.agg #[.slice A n c, .slice A' n' c'], .agg #[.slice D 0 k, .slice D' m' k']] w fun e w' => RetA3 (0, 0, 7) w e w' := by
  have S := (((((Fs.start w).put ha).put ha').put hb).put hb').box (.slice A n c) (.slice A' n' c') |>.box (.slice D 0 k) (.slice D' m' k') |>.box (.slice none 0 0) (.slice none 0 0)
  simp only [World.size_alloc] at S
  clear ha ha' hb hb'
  go_enter Tryd.func42, Tryd.ntmps42
  go_wp2_with fail
  generalize ((w.alloc (.cells #[.slice A n c, .slice A' n' c'] 50)).alloc (.cells #[.slice D 0 k, .slice D' m' k'] 50)).alloc (.cells #[.slice none 0 0, .slice none 0 0] 50) = w0 at *
  have K := ratRight_any (S.lie.2.2.2.1) (S.lie.2.2.1)
  rw [frB_yes f.fr] at K
  refine K.mono ?_
  clear K
  rintro e x1 ⟨rfl, B9⟩
  have S := S.next B9
  clear B9
  obtain ⟨⟨r0, r1, q0, q1, rz⟩, ⟨b0, b1, -⟩, ⟨a0, a1, -⟩, -⟩ := S.cel
  go_wp2_with fail
  clear r0 r1 q0 q1 rz b0 b1 a0 a1
  have K := ratRight_any (S.lie.2.1) (S.lie.1)
  rw [frB_yes g.fr] at K
  refine K.mono ?_
  clear K
  rintro e x2 ⟨rfl, B9⟩
  have S := S.next B9
  clear B9
  obtain ⟨⟨r0, r1, q0, q1, rz⟩, ⟨b0, b1, -⟩, ⟨a0, a1, -⟩, -⟩ := S.cel
  go_wp2_with fail
  go_light
  exact bodyPost_ret (v := .tuple #[.agg #[.slice none 0 0, .slice none 0 0], .int .i64 7]) (by simp [results, Tryd.results42, go_sem, r0, r1]) rfl ⟨_, _, _, _, _, _, rfl, by rw [limbs_zero]; exact Lim.none_ _ _ _ (by decide), by rw [limbs_zero]; exact Lim.none_ _ _ _ (by decide), (S.bl.setCell (by simp only []; omega) _).setCell (by simp only []; omega) _⟩
end Go.Proofs.YtdnikdocfbbkkaaDoor
