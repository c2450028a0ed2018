/- The walks of rat: joined, Add, Sub. -/
import Derived.Test.YtdnikdocfbbkkaaDoorJ07
namespace Go.Proofs.YtdnikdocfbbkkaaDoor
open Go.RowKit
set_option linter.unusedVariables false
set_option linter.unusedSimpArgs false

set_option maxHeartbeats 2000000 in
set_option maxRecDepth 100000 in
theorem joinedAdd_bad1 {A A' D D' : Option Addr} {n c n' c' m k m' k' : Nat} {xs ys us vs : List Nat} {w : World} (ha : Lim w A n c xs) (ha' : Lim w A' n' c' ys) (hb : Lim w D m k us) (hb' : Lim w D' m' k' vs) (f : ¬ Fr xs ys) : Calls Tryd.prog 88 #[.agg #[.slice A n c, .slice A' n' c'], .agg #[.slice D m k, .slice D' m' k'], (.func (.func 27) #[] #[])] w fun e w' => RetA3 (0, 0, 1) w e w' := by
  have S := (((((Fs.start w).put ha).put ha').put hb).put hb').box (.slice A n c) (.slice A' n' c') |>.box (.slice D m k) (.slice D' m' k') |>.box (.slice none 0 0) (.slice none 0 0)
  simp only [World.size_alloc] at S
  clear ha ha' hb hb'
  go_enter Tryd.func88, Tryd.ntmps88
  go_wp2_with fail
  generalize ((w.alloc (.cells #[.slice A n c, .slice A' n' c'] 50)).alloc (.cells #[.slice D m k, .slice D' m' k'] 50)).alloc (.cells #[.slice none 0 0, .slice none 0 0] 50) = w0 at *
  have K := ratRight_any (S.lie.2.2.2.1) (S.lie.2.2.1)
  rw [frB_no f] at K
  refine K.mono ?_
  clear K
  rintro e x1 ⟨rfl, B9⟩
  have S := S.next B9
  clear B9
  obtain ⟨⟨r0, r1, q0, q1, rz⟩, ⟨b0, b1, -⟩, ⟨a0, a1, -⟩, -⟩ := S.cel
  go_wp2_with fail
  go_light
  exact bodyPost_ret (v := .tuple #[.agg #[.slice none 0 0, .slice none 0 0], .int .i64 1]) (by simp [results, Tryd.results88, go_sem, r0, r1]) rfl ⟨_, _, _, _, _, _, rfl, by rw [limbs_zero]; exact Lim.none_ _ _ _ (by decide), by rw [limbs_zero]; exact Lim.none_ _ _ _ (by decide), (S.bl.setCell (by simp only []; omega) _).setCell (by simp only []; omega) _⟩
set_option maxHeartbeats 2000000 in
set_option maxRecDepth 100000 in
theorem joinedAdd_bad2 {A A' D D' : Option Addr} {n c n' c' m k m' k' : Nat} {xs ys us vs : List Nat} {w : World} (ha : Lim w A n c xs) (ha' : Lim w A' n' c' ys) (hb : Lim w D m k us) (hb' : Lim w D' m' k' vs) (f : Fr xs ys) (g : ¬ Fr us vs) : Calls Tryd.prog 88 #[.agg #[.slice A n c, .slice A' n' c'], .agg #[.slice D m k, .slice D' m' k'], (.func (.func 27) #[] #[])] w fun e w' => RetA3 (0, 0, 1) w e w' := by
  have S := (((((Fs.start w).put ha).put ha').put hb).put hb').box (.slice A n c) (.slice A' n' c') |>.box (.slice D m k) (.slice D' m' k') |>.box (.slice none 0 0) (.slice none 0 0)
  simp only [World.size_alloc] at S
  clear ha ha' hb hb'
  go_enter Tryd.func88, Tryd.ntmps88
  go_wp2_with fail
  generalize ((w.alloc (.cells #[.slice A n c, .slice A' n' c'] 50)).alloc (.cells #[.slice D m k, .slice D' m' k'] 50)).alloc (.cells #[.slice none 0 0, .slice none 0 0] 50) = w0 at *
  have K := ratRight_any (S.lie.2.2.2.1) (S.lie.2.2.1)
  rw [frB_yes f] at K
  refine K.mono ?_
  clear K
  rintro e x1 ⟨rfl, B9⟩
  have S := S.next B9
  clear B9
  obtain ⟨⟨r0, r1, q0, q1, rz⟩, ⟨b0, b1, -⟩, ⟨a0, a1, -⟩, -⟩ := S.cel
  go_wp2_with fail
  clear r0 r1 q0 q1 rz b0 b1 a0 a1
  have K := ratRight_any (S.lie.2.1) (S.lie.1)
  rw [frB_no g] at K
  refine K.mono ?_
  clear K
  rintro e x2 ⟨rfl, B9⟩
  have S := S.next B9
  clear B9
  obtain ⟨⟨r0, r1, q0, q1, rz⟩, ⟨b0, b1, -⟩, ⟨a0, a1, -⟩, -⟩ := S.cel
  go_wp2_with fail
  go_light
  exact bodyPost_ret (v := .tuple #[.agg #[.slice none 0 0, .slice none 0 0], .int .i64 1]) (by simp [results, Tryd.results88, go_sem, r0, r1]) rfl ⟨_, _, _, _, _, _, rfl, by rw [limbs_zero]; exact Lim.none_ _ _ _ (by decide), by rw [limbs_zero]; exact Lim.none_ _ _ _ (by decide), (S.bl.setCell (by simp only []; omega) _).setCell (by simp only []; omega) _⟩
theorem joinedAdd_bad {A A' D D' : Option Addr} {n c n' c' m k m' k' : Nat} {xs ys us vs : List Nat} {w : World} (ha : Lim w A n c xs) (ha' : Lim w A' n' c' ys) (hb : Lim w D m k us) (hb' : Lim w D' m' k' vs) (f : ¬ (Fr xs ys ∧ Fr us vs)) : Calls Tryd.prog 88 #[.agg #[.slice A n c, .slice A' n' c'], .agg #[.slice D m k, .slice D' m' k'], (.func (.func 27) #[] #[])] w fun e w' => RetA3 (0, 0, 1) w e w' := by
  by_cases h : Fr xs ys
  · exact joinedAdd_bad2 ha ha' hb hb' h fun g => f ⟨h, g⟩
  · exact joinedAdd_bad1 ha ha' hb hb' h
set_option maxHeartbeats 2000000 in
set_option maxRecDepth 100000 in
theorem joinedAdd_den {A A' D D' : Option Addr} {n c n' c' m k m' k' : Nat} {p q p' q' : Nat} {w : World} (ha : Lim w A n c (limbs p)) (ha' : Lim w A' n' c' (limbs q)) (hb : Lim w D m k (limbs p')) (hb' : Lim w D' m' k' (limbs q')) (f : Fq p q) (g : Fq p' q') (h0 : ¬ ln (q * q') ≤ 64) : Calls Tryd.prog 88 #[.agg #[.slice A n c, .slice A' n' c'], .agg #[.slice D m k, .slice D' m' k'], (.func (.func 27) #[] #[])] w fun e w' => RetA3 (0, 0, 6) w e w' := by
  have S := (((((Fs.start w).put ha).put ha').put hb).put hb').box (.slice A n c) (.slice A' n' c') |>.box (.slice D m k) (.slice D' m' k') |>.box (.slice none 0 0) (.slice none 0 0)
  simp only [World.size_alloc] at S
  clear ha ha' hb hb'
  go_enter Tryd.func88, Tryd.ntmps88
  go_wp2_with fail
  generalize ((w.alloc (.cells #[.slice A n c, .slice A' n' c'] 50)).alloc (.cells #[.slice D m k, .slice D' m' k'] 50)).alloc (.cells #[.slice none 0 0, .slice none 0 0] 50) = w0 at *
  have K := ratRight_any (S.lie.2.2.2.1) (S.lie.2.2.1)
  rw [frB_yes f.fr] at K
  refine K.mono ?_
  clear K
  rintro e x1 ⟨rfl, B9⟩
  have S := S.next B9
  clear B9
  obtain ⟨⟨r0, r1, q0, q1, rz⟩, ⟨b0, b1, -⟩, ⟨a0, a1, -⟩, -⟩ := S.cel
  go_wp2_with fail
  clear r0 r1 q0 q1 rz b0 b1 a0 a1
  have K := ratRight_any (S.lie.2.1) (S.lie.1)
  rw [frB_yes g.fr] at K
  refine K.mono ?_
  clear K
  rintro e x2 ⟨rfl, B9⟩
  have S := S.next B9
  clear B9
  obtain ⟨⟨r0, r1, q0, q1, rz⟩, ⟨b0, b1, -⟩, ⟨a0, a1, -⟩, -⟩ := S.cel
  go_wp2_with fail
  clear r0 r1 q0 q1 rz b0 b1 a0 a1
  have K := mul_any S.lie.2.2.1 S.lie.1 f.lq g.lq
  rw [fitN_no h0, fitE_no h0] at K
  refine K.mono ?_
  clear K
  rintro e x3 ⟨A1, n1, c1, rfl, L1, B9⟩
  have S := (S.next B9).put L1
  clear B9 L1
  obtain ⟨⟨r0, r1, q0, q1, rz⟩, ⟨b0, b1, -⟩, ⟨a0, a1, -⟩, -⟩ := S.cel
  go_wp2_with fail
  go_light
  exact bodyPost_ret (v := .tuple #[.agg #[.slice none 0 0, .slice none 0 0], .int .i64 6]) (by simp [results, Tryd.results88, go_sem, r0, r1]) rfl ⟨_, _, _, _, _, _, rfl, by rw [limbs_zero]; exact Lim.none_ _ _ _ (by decide), by rw [limbs_zero]; exact Lim.none_ _ _ _ (by decide), (S.bl.setCell (by simp only []; omega) _).setCell (by simp only []; omega) _⟩
set_option maxHeartbeats 2000000 in
set_option maxRecDepth 100000 in
theorem joinedAdd_big {A A' D D' : Option Addr} {n c n' c' m k m' k' : Nat} {p q p' q' : Nat} {w : World} (ha : Lim w A n c (limbs p)) (ha' : Lim w A' n' c' (limbs q)) (hb : Lim w D m k (limbs p')) (hb' : Lim w D' m' k' (limbs q')) (f : Fq p q) (g : Fq p' q') (h0 : ln (q * q') ≤ 64) (h : ¬ (ln (p * q') ≤ 64 ∧ ln (p' * q) ≤ 64)) : Calls Tryd.prog 88 #[.agg #[.slice A n c, .slice A' n' c'], .agg #[.slice D m k, .slice D' m' k'], (.func (.func 27) #[] #[])] w fun e w' => RetA3 (0, 0, 6) w e w' := by
  have S := (((((Fs.start w).put ha).put ha').put hb).put hb').box (.slice A n c) (.slice A' n' c') |>.box (.slice D m k) (.slice D' m' k') |>.box (.slice none 0 0) (.slice none 0 0)
  simp only [World.size_alloc] at S
  clear ha ha' hb hb'
  go_enter Tryd.func88, Tryd.ntmps88
  go_wp2_with fail
  generalize ((w.alloc (.cells #[.slice A n c, .slice A' n' c'] 50)).alloc (.cells #[.slice D m k, .slice D' m' k'] 50)).alloc (.cells #[.slice none 0 0, .slice none 0 0] 50) = w0 at *
  have K := ratRight_any (S.lie.2.2.2.1) (S.lie.2.2.1)
  rw [frB_yes f.fr] at K
  refine K.mono ?_
  clear K
  rintro e x1 ⟨rfl, B9⟩
  have S := S.next B9
  clear B9
  obtain ⟨⟨r0, r1, q0, q1, rz⟩, ⟨b0, b1, -⟩, ⟨a0, a1, -⟩, -⟩ := S.cel
  go_wp2_with fail
  clear r0 r1 q0 q1 rz b0 b1 a0 a1
  have K := ratRight_any (S.lie.2.1) (S.lie.1)
  rw [frB_yes g.fr] at K
  refine K.mono ?_
  clear K
  rintro e x2 ⟨rfl, B9⟩
  have S := S.next B9
  clear B9
  obtain ⟨⟨r0, r1, q0, q1, rz⟩, ⟨b0, b1, -⟩, ⟨a0, a1, -⟩, -⟩ := S.cel
  go_wp2_with fail
  clear r0 r1 q0 q1 rz b0 b1 a0 a1
  have K := mul_any S.lie.2.2.1 S.lie.1 f.lq g.lq
  rw [fitN_yes h0, fitE_yes h0] at K
  refine K.mono ?_
  clear K
  rintro e x3 ⟨A1, n1, c1, rfl, L1, B9⟩
  have S := (S.next B9).put L1
  clear B9 L1
  obtain ⟨⟨r0, r1, q0, q1, rz⟩, ⟨b0, b1, -⟩, ⟨a0, a1, -⟩, -⟩ := S.cel
  go_wp2_with fail
  clear r0 r1 q0 q1 rz b0 b1 a0 a1
  refine (crossed_big S.lie.2.2.2.2.1 S.lie.2.2.2.1 S.lie.2.2.1 S.lie.2.1 f g h).mono ?_
  rintro e x4 ⟨A2, n2, c2, A3, n3, c3, rfl, L1, L2, B9⟩
  have S := ((S.next B9).put L1).put L2
  clear B9 L1 L2
  obtain ⟨⟨r0, r1, q0, q1, rz⟩, ⟨b0, b1, -⟩, ⟨a0, a1, -⟩, -⟩ := S.cel
  go_wp2_with fail
  go_light
  exact bodyPost_ret (v := .tuple #[.agg #[.slice none 0 0, .slice none 0 0], .int .i64 6]) (by simp [results, Tryd.results88, go_sem, r0, r1]) rfl ⟨_, _, _, _, _, _, rfl, by rw [limbs_zero]; exact Lim.none_ _ _ _ (by decide), by rw [limbs_zero]; exact Lim.none_ _ _ _ (by decide), (S.bl.setCell (by simp only []; omega) _).setCell (by simp only []; omega) _⟩
set_option maxHeartbeats 2000000 in
set_option maxRecDepth 100000 in
theorem joinedAdd_sum {A A' D D' : Option Addr} {n c n' c' m k m' k' : Nat} {p q p' q' : Nat} {w : World} (ha : Lim w A n c (limbs p)) (ha' : Lim w A' n' c' (limbs q)) (hb : Lim w D m k (limbs p')) (hb' : Lim w D' m' k' (limbs q')) (f : Fq p q) (g : Fq p' q') (h0 : ln (q * q') ≤ 64) (h1 : ln (p * q') ≤ 64) (h2 : ln (p' * q) ≤ 64) (h3 : ¬ ln (p * q' + p' * q) ≤ 64) : Calls Tryd.prog 88 #[.agg #[.slice A n c, .slice A' n' c'], .agg #[.slice D m k, .slice D' m' k'], (.func (.func 27) #[] #[])] w fun e w' => RetA3 (0, 0, 6) w e w' := by
  have S := (((((Fs.start w).put ha).put ha').put hb).put hb').box (.slice A n c) (.slice A' n' c') |>.box (.slice D m k) (.slice D' m' k') |>.box (.slice none 0 0) (.slice none 0 0)
  simp only [World.size_alloc] at S
  clear ha ha' hb hb'
  go_enter Tryd.func88, Tryd.ntmps88
  go_wp2_with fail
  generalize ((w.alloc (.cells #[.slice A n c, .slice A' n' c'] 50)).alloc (.cells #[.slice D m k, .slice D' m' k'] 50)).alloc (.cells #[.slice none 0 0, .slice none 0 0] 50) = w0 at *
  have K := ratRight_any (S.lie.2.2.2.1) (S.lie.2.2.1)
  rw [frB_yes f.fr] at K
  refine K.mono ?_
  clear K
  rintro e x1 ⟨rfl, B9⟩
  have S := S.next B9
  clear B9
  obtain ⟨⟨r0, r1, q0, q1, rz⟩, ⟨b0, b1, -⟩, ⟨a0, a1, -⟩, -⟩ := S.cel
  go_wp2_with fail
  clear r0 r1 q0 q1 rz b0 b1 a0 a1
  have K := ratRight_any (S.lie.2.1) (S.lie.1)
  rw [frB_yes g.fr] at K
  refine K.mono ?_
  clear K
  rintro e x2 ⟨rfl, B9⟩
  have S := S.next B9
  clear B9
  obtain ⟨⟨r0, r1, q0, q1, rz⟩, ⟨b0, b1, -⟩, ⟨a0, a1, -⟩, -⟩ := S.cel
  go_wp2_with fail
  clear r0 r1 q0 q1 rz b0 b1 a0 a1
  have K := mul_any S.lie.2.2.1 S.lie.1 f.lq g.lq
  rw [fitN_yes h0, fitE_yes h0] at K
  refine K.mono ?_
  clear K
  rintro e x3 ⟨A1, n1, c1, rfl, L1, B9⟩
  have S := (S.next B9).put L1
  clear B9 L1
  obtain ⟨⟨r0, r1, q0, q1, rz⟩, ⟨b0, b1, -⟩, ⟨a0, a1, -⟩, -⟩ := S.cel
  go_wp2_with fail
  clear r0 r1 q0 q1 rz b0 b1 a0 a1
  refine (crossed_yes S.lie.2.2.2.2.1 S.lie.2.2.2.1 S.lie.2.2.1 S.lie.2.1 f g h1 h2).mono ?_
  rintro e x4 ⟨A2, n2, c2, A3, n3, c3, rfl, L1, L2, B9⟩
  have S := ((S.next B9).put L1).put L2
  clear B9 L1 L2
  obtain ⟨⟨r0, r1, q0, q1, rz⟩, ⟨b0, b1, -⟩, ⟨a0, a1, -⟩, -⟩ := S.cel
  go_wp2_with fail
  clear r0 r1 q0 q1 rz b0 b1 a0 a1
  have K := add_any S.lie.2.1 S.lie.1 h1 h2
  rw [fitN_no h3, fitE_no h3] at K
  refine K.mono ?_
  clear K
  rintro e x5 ⟨A4, n4, c4, rfl, L1, B9⟩
  have S := (S.next B9).put L1
  clear B9 L1
  obtain ⟨⟨r0, r1, q0, q1, rz⟩, ⟨b0, b1, -⟩, ⟨a0, a1, -⟩, -⟩ := S.cel
  go_wp2_with fail
  go_light
  exact bodyPost_ret (v := .tuple #[.agg #[.slice none 0 0, .slice none 0 0], .int .i64 6]) (by simp [results, Tryd.results88, go_sem, r0, r1]) rfl ⟨_, _, _, _, _, _, rfl, by rw [limbs_zero]; exact Lim.none_ _ _ _ (by decide), by rw [limbs_zero]; exact Lim.none_ _ _ _ (by decide), (S.bl.setCell (by simp only []; omega) _).setCell (by simp only []; omega) _⟩
set_option maxHeartbeats 2000000 in
set_option maxRecDepth 100000 in
theorem joinedAdd_yes {A A' D D' : Option Addr} {n c n' c' m k m' k' : Nat} {p q p' q' : Nat} {w : World} (ha : Lim w A n c (limbs p)) (ha' : Lim w A' n' c' (limbs q)) (hb : Lim w D m k (limbs p')) (hb' : Lim w D' m' k' (limbs q')) (f : Fq p q) (g : Fq p' q') (h0 : ln (q * q') ≤ 64) (h1 : ln (p * q') ≤ 64) (h2 : ln (p' * q) ≤ 64) (h3 : ln (p * q' + p' * q) ≤ 64) : Calls Tryd.prog 88 #[.agg #[.slice A n c, .slice A' n' c'], .agg #[.slice D m k, .slice D' m' k'], (.func (.func 27) #[] #[])] w fun e w' => RetA3 (red (p * q' + p' * q) (q * q')) w e w' := by
  have S := (((((Fs.start w).put ha).put ha').put hb).put hb').box (.slice A n c) (.slice A' n' c') |>.box (.slice D m k) (.slice D' m' k') |>.box (.slice none 0 0) (.slice none 0 0)
  simp only [World.size_alloc] at S
  clear ha ha' hb hb'
  go_enter Tryd.func88, Tryd.ntmps88
  go_wp2_with fail
  generalize ((w.alloc (.cells #[.slice A n c, .slice A' n' c'] 50)).alloc (.cells #[.slice D m k, .slice D' m' k'] 50)).alloc (.cells #[.slice none 0 0, .slice none 0 0] 50) = w0 at *
  have K := ratRight_any (S.lie.2.2.2.1) (S.lie.2.2.1)
  rw [frB_yes f.fr] at K
  refine K.mono ?_
  clear K
  rintro e x1 ⟨rfl, B9⟩
  have S := S.next B9
  clear B9
  obtain ⟨⟨r0, r1, q0, q1, rz⟩, ⟨b0, b1, -⟩, ⟨a0, a1, -⟩, -⟩ := S.cel
  go_wp2_with fail
  clear r0 r1 q0 q1 rz b0 b1 a0 a1
  have K := ratRight_any (S.lie.2.1) (S.lie.1)
  rw [frB_yes g.fr] at K
  refine K.mono ?_
  clear K
  rintro e x2 ⟨rfl, B9⟩
  have S := S.next B9
  clear B9
  obtain ⟨⟨r0, r1, q0, q1, rz⟩, ⟨b0, b1, -⟩, ⟨a0, a1, -⟩, -⟩ := S.cel
  go_wp2_with fail
  clear r0 r1 q0 q1 rz b0 b1 a0 a1
  have K := mul_any S.lie.2.2.1 S.lie.1 f.lq g.lq
  rw [fitN_yes h0, fitE_yes h0] at K
  refine K.mono ?_
  clear K
  rintro e x3 ⟨A1, n1, c1, rfl, L1, B9⟩
  have S := (S.next B9).put L1
  clear B9 L1
  obtain ⟨⟨r0, r1, q0, q1, rz⟩, ⟨b0, b1, -⟩, ⟨a0, a1, -⟩, -⟩ := S.cel
  go_wp2_with fail
  clear r0 r1 q0 q1 rz b0 b1 a0 a1
  refine (crossed_yes S.lie.2.2.2.2.1 S.lie.2.2.2.1 S.lie.2.2.1 S.lie.2.1 f g h1 h2).mono ?_
  rintro e x4 ⟨A2, n2, c2, A3, n3, c3, rfl, L1, L2, B9⟩
  have S := ((S.next B9).put L1).put L2
  clear B9 L1 L2
  obtain ⟨⟨r0, r1, q0, q1, rz⟩, ⟨b0, b1, -⟩, ⟨a0, a1, -⟩, -⟩ := S.cel
  go_wp2_with fail
  clear r0 r1 q0 q1 rz b0 b1 a0 a1
  have K := add_any S.lie.2.1 S.lie.1 h1 h2
  rw [fitN_yes h3, fitE_yes h3] at K
  refine K.mono ?_
  clear K
  rintro e x5 ⟨A4, n4, c4, rfl, L1, B9⟩
  have S := (S.next B9).put L1
  clear B9 L1
  obtain ⟨⟨r0, r1, q0, q1, rz⟩, ⟨b0, b1, -⟩, ⟨a0, a1, -⟩, -⟩ := S.cel
  go_wp2_with fail
  clear r0 r1 q0 q1 rz b0 b1 a0 a1
  refine (reduced_any S.lie.1 S.lie.2.2.2.1 h3 h0 (Nat.mul_ne_zero f.q0 g.q0)).mono ?_
  rintro e x4 ⟨A6, n6, c6, A7, n7, c7, rfl, L3, L4, B9⟩
  have S := ((S.next B9).put L3).put L4
  clear B9 L3 L4
  obtain ⟨⟨r0, r1, q0, q1, rz⟩, ⟨b0, b1, -⟩, ⟨a0, a1, -⟩, -⟩ := S.cel
  go_wp2_with fail
  go_light
  exact bodyPost_ret (v := .tuple #[.agg #[.slice A6 n6 c6, .slice A7 n7 c7], .int .i64 0]) (by simp [results, Tryd.results88, go_sem, r0, r1]) rfl ⟨_, _, _, _, _, _, rfl, S.lie.2.1.put2 r0 r1 _ _, S.lie.1.put2 r0 r1 _ _, (S.bl.setCell (by simp only []; omega) _).setCell (by simp only []; omega) _⟩
set_option maxHeartbeats 2000000 in
set_option maxRecDepth 100000 in
theorem ratAdd_of {A A' D D' : Option Addr} {n c n' c' m k m' k' : Nat} {xs ys us vs : List Nat} {r : Ans} {w : World} (ha : Lim w A n c xs) (ha' : Lim w A' n' c' ys) (hb : Lim w D m k us) (hb' : Lim w D' m' k' vs) (K : ∀ W, Lim W A n c xs → Lim W A' n' c' ys → Lim W D m k us → Lim W D' m' k' vs → Calls Tryd.prog 88 #[.agg #[.slice A n c, .slice A' n' c'], .agg #[.slice D m k, .slice D' m' k'], (.func (.func 27) #[] #[])] W fun e w' => RetA3 r W e w') : Calls Tryd.prog 39 #[.agg #[.slice A n c, .slice A' n' c'], .agg #[.slice D m k, .slice D' m' k']] w fun e w' => RetA3 r w e w' := by
  have K := Lib.hid K
  have S := (((((Fs.start w).put ha).put ha').put hb).put hb').box (.slice A n c) (.slice A' n' c') |>.box (.slice D m k) (.slice D' m' k') |>.box (.slice none 0 0) (.slice none 0 0)
  simp only [World.size_alloc] at S
  clear ha ha' hb hb'
  go_enter Tryd.func39, Tryd.ntmps39
  go_wp2_with fail
  generalize ((w.alloc (.cells #[.slice A n c, .slice A' n' c'] 50)).alloc (.cells #[.slice D m k, .slice D' m' k'] 50)).alloc (.cells #[.slice none 0 0, .slice none 0 0] 50) = w0 at *
  refine (K.out _ S.lie.2.2.2.1 S.lie.2.2.1 S.lie.2.1 S.lie.1).mono ?_
  rintro e x3 ⟨A1, n1, c1, A2, n2, c2, rfl, L1, L2, B9⟩
  have S := ((S.next B9).put L1).put L2
  clear B9 L1 L2
  obtain ⟨⟨r0, r1, q0, q1, rz⟩, ⟨b0, b1, -⟩, ⟨a0, a1, -⟩, -⟩ := S.cel
  go_wp2_with fail
  go_light
  exact bodyPost_ret (v := .tuple #[.agg #[.slice A1 n1 c1, .slice A2 n2 c2], .int .i64 r.2.2]) (by simp [results, Tryd.results39, go_sem, r0, r1]) rfl ⟨_, _, _, _, _, _, rfl, S.lie.2.1.put2 r0 r1 _ _, S.lie.1.put2 r0 r1 _ _, (S.bl.setCell (by simp only []; omega) _).setCell (by simp only []; omega) _⟩
set_option maxHeartbeats 2000000 in
set_option maxRecDepth 100000 in
theorem joinedSub_bad1 {A A' D D' : Option Addr} {n c n' c' m k m' k' : Nat} {xs ys us vs : List Nat} {w : World} (ha : Lim w A n c xs) (ha' : Lim w A' n' c' ys) (hb : Lim w D m k us) (hb' : Lim w D' m' k' vs) (f : ¬ Fr xs ys) : Calls Tryd.prog 88 #[.agg #[.slice A n c, .slice A' n' c'], .agg #[.slice D m k, .slice D' m' k'], (.func (.func 65) #[] #[])] w fun e w' => RetA3 (0, 0, 1) w e w' := by
  have S := (((((Fs.start w).put ha).put ha').put hb).put hb').box (.slice A n c) (.slice A' n' c') |>.box (.slice D m k) (.slice D' m' k') |>.box (.slice none 0 0) (.slice none 0 0)
  simp only [World.size_alloc] at S
  clear ha ha' hb hb'
  go_enter Tryd.func88, Tryd.ntmps88
  go_wp2_with fail
  generalize ((w.alloc (.cells #[.slice A n c, .slice A' n' c'] 50)).alloc (.cells #[.slice D m k, .slice D' m' k'] 50)).alloc (.cells #[.slice none 0 0, .slice none 0 0] 50) = w0 at *
  have K := ratRight_any (S.lie.2.2.2.1) (S.lie.2.2.1)
  rw [frB_no f] at K
  refine K.mono ?_
  clear K
  rintro e x1 ⟨rfl, B9⟩
  have S := S.next B9
  clear B9
  obtain ⟨⟨r0, r1, q0, q1, rz⟩, ⟨b0, b1, -⟩, ⟨a0, a1, -⟩, -⟩ := S.cel
  go_wp2_with fail
  go_light
  exact bodyPost_ret (v := .tuple #[.agg #[.slice none 0 0, .slice none 0 0], .int .i64 1]) (by simp [results, Tryd.results88, go_sem, r0, r1]) rfl ⟨_, _, _, _, _, _, rfl, by rw [limbs_zero]; exact Lim.none_ _ _ _ (by decide), by rw [limbs_zero]; exact Lim.none_ _ _ _ (by decide), (S.bl.setCell (by simp only []; omega) _).setCell (by simp only []; omega) _⟩
set_option maxHeartbeats 2000000 in
set_option maxRecDepth 100000 in
theorem joinedSub_bad2 {A A' D D' : Option Addr} {n c n' c' m k m' k' : Nat} {xs ys us vs : List Nat} {w : World} (ha : Lim w A n c xs) (ha' : Lim w A' n' c' ys) (hb : Lim w D m k us) (hb' : Lim w D' m' k' vs) (f : Fr xs ys) (g : ¬ Fr us vs) : Calls Tryd.prog 88 #[.agg #[.slice A n c, .slice A' n' c'], .agg #[.slice D m k, .slice D' m' k'], (.func (.func 65) #[] #[])] w fun e w' => RetA3 (0, 0, 1) w e w' := by
  have S := (((((Fs.start w).put ha).put ha').put hb).put hb').box (.slice A n c) (.slice A' n' c') |>.box (.slice D m k) (.slice D' m' k') |>.box (.slice none 0 0) (.slice none 0 0)
  simp only [World.size_alloc] at S
  clear ha ha' hb hb'
  go_enter Tryd.func88, Tryd.ntmps88
  go_wp2_with fail
  generalize ((w.alloc (.cells #[.slice A n c, .slice A' n' c'] 50)).alloc (.cells #[.slice D m k, .slice D' m' k'] 50)).alloc (.cells #[.slice none 0 0, .slice none 0 0] 50) = w0 at *
  have K := ratRight_any (S.lie.2.2.2.1) (S.lie.2.2.1)
  rw [frB_yes f] at K
  refine K.mono ?_
  clear K
  rintro e x1 ⟨rfl, B9⟩
  have S := S.next B9
  clear B9
  obtain ⟨⟨r0, r1, q0, q1, rz⟩, ⟨b0, b1, -⟩, ⟨a0, a1, -⟩, -⟩ := S.cel
  go_wp2_with fail
  clear r0 r1 q0 q1 rz b0 b1 a0 a1
  have K := ratRight_any (S.lie.2.1) (S.lie.1)
  rw [frB_no g] at K
  refine K.mono ?_
  clear K
  rintro e x2 ⟨rfl, B9⟩
  have S := S.next B9
  clear B9
  obtain ⟨⟨r0, r1, q0, q1, rz⟩, ⟨b0, b1, -⟩, ⟨a0, a1, -⟩, -⟩ := S.cel
  go_wp2_with fail
  go_light
  exact bodyPost_ret (v := .tuple #[.agg #[.slice none 0 0, .slice none 0 0], .int .i64 1]) (by simp [results, Tryd.results88, go_sem, r0, r1]) rfl ⟨_, _, _, _, _, _, rfl, by rw [limbs_zero]; exact Lim.none_ _ _ _ (by decide), by rw [limbs_zero]; exact Lim.none_ _ _ _ (by decide), (S.bl.setCell (by simp only []; omega) _).setCell (by simp only []; omega) _⟩
theorem joinedSub_bad {A A' D D' : Option Addr} {n c n' c' m k m' k' : Nat} {xs ys us vs : List Nat} {w : World} (ha : Lim w A n c xs) (ha' : Lim w A' n' c' ys) (hb : Lim w D m k us) (hb' : Lim w D' m' k' vs) (f : ¬ (Fr xs ys ∧ Fr us vs)) : Calls Tryd.prog 88 #[.agg #[.slice A n c, .slice A' n' c'], .agg #[.slice D m k, .slice D' m' k'], (.func (.func 65) #[] #[])] w fun e w' => RetA3 (0, 0, 1) w e w' := by
  by_cases h : Fr xs ys
  · exact joinedSub_bad2 ha ha' hb hb' h fun g => f ⟨h, g⟩
  · exact joinedSub_bad1 ha ha' hb hb' h
set_option maxHeartbeats 2000000 in
set_option maxRecDepth 100000 in
theorem joinedSub_den {A A' D D' : Option Addr} {n c n' c' m k m' k' : Nat} {p q p' q' : Nat} {w : World} (ha : Lim w A n c (limbs p)) (ha' : Lim w A' n' c' (limbs q)) (hb : Lim w D m k (limbs p')) (hb' : Lim w D' m' k' (limbs q')) (f : Fq p q) (g : Fq p' q') (h0 : ¬ ln (q * q') ≤ 64) : Calls Tryd.prog 88 #[.agg #[.slice A n c, .slice A' n' c'], .agg #[.slice D m k, .slice D' m' k'], (.func (.func 65) #[] #[])] w fun e w' => RetA3 (0, 0, 6) w e w' := by
  have S := (((((Fs.start w).put ha).put ha').put hb).put hb').box (.slice A n c) (.slice A' n' c') |>.box (.slice D m k) (.slice D' m' k') |>.box (.slice none 0 0) (.slice none 0 0)
  simp only [World.size_alloc] at S
  clear ha ha' hb hb'
  go_enter Tryd.func88, Tryd.ntmps88
  go_wp2_with fail
  generalize ((w.alloc (.cells #[.slice A n c, .slice A' n' c'] 50)).alloc (.cells #[.slice D m k, .slice D' m' k'] 50)).alloc (.cells #[.slice none 0 0, .slice none 0 0] 50) = w0 at *
  have K := ratRight_any (S.lie.2.2.2.1) (S.lie.2.2.1)
  rw [frB_yes f.fr] at K
  refine K.mono ?_
  clear K
  rintro e x1 ⟨rfl, B9⟩
  have S := S.next B9
  clear B9
  obtain ⟨⟨r0, r1, q0, q1, rz⟩, ⟨b0, b1, -⟩, ⟨a0, a1, -⟩, -⟩ := S.cel
  go_wp2_with fail
  clear r0 r1 q0 q1 rz b0 b1 a0 a1
  have K := ratRight_any (S.lie.2.1) (S.lie.1)
  rw [frB_yes g.fr] at K
  refine K.mono ?_
  clear K
  rintro e x2 ⟨rfl, B9⟩
  have S := S.next B9
  clear B9
  obtain ⟨⟨r0, r1, q0, q1, rz⟩, ⟨b0, b1, -⟩, ⟨a0, a1, -⟩, -⟩ := S.cel
  go_wp2_with fail
  clear r0 r1 q0 q1 rz b0 b1 a0 a1
  have K := mul_any S.lie.2.2.1 S.lie.1 f.lq g.lq
  rw [fitN_no h0, fitE_no h0] at K
  refine K.mono ?_
  clear K
  rintro e x3 ⟨A1, n1, c1, rfl, L1, B9⟩
  have S := (S.next B9).put L1
  clear B9 L1
  obtain ⟨⟨r0, r1, q0, q1, rz⟩, ⟨b0, b1, -⟩, ⟨a0, a1, -⟩, -⟩ := S.cel
  go_wp2_with fail
  go_light
  exact bodyPost_ret (v := .tuple #[.agg #[.slice none 0 0, .slice none 0 0], .int .i64 6]) (by simp [results, Tryd.results88, go_sem, r0, r1]) rfl ⟨_, _, _, _, _, _, rfl, by rw [limbs_zero]; exact Lim.none_ _ _ _ (by decide), by rw [limbs_zero]; exact Lim.none_ _ _ _ (by decide), (S.bl.setCell (by simp only []; omega) _).setCell (by simp only []; omega) _⟩
set_option maxHeartbeats 2000000 in
set_option maxRecDepth 100000 in
theorem joinedSub_big {A A' D D' : Option Addr} {n c n' c' m k m' k' : Nat} {p q p' q' : Nat} {w : World} (ha : Lim w A n c (limbs p)) (ha' : Lim w A' n' c' (limbs q)) (hb : Lim w D m k (limbs p')) (hb' : Lim w D' m' k' (limbs q')) (f : Fq p q) (g : Fq p' q') (h0 : ln (q * q') ≤ 64) (h : ¬ (ln (p * q') ≤ 64 ∧ ln (p' * q) ≤ 64)) : Calls Tryd.prog 88 #[.agg #[.slice A n c, .slice A' n' c'], .agg #[.slice D m k, .slice D' m' k'], (.func (.func 65) #[] #[])] w fun e w' => RetA3 (0, 0, 6) w e w' := by
  have S := (((((Fs.start w).put ha).put ha').put hb).put hb').box (.slice A n c) (.slice A' n' c') |>.box (.slice D m k) (.slice D' m' k') |>.box (.slice none 0 0) (.slice none 0 0)
  simp only [World.size_alloc] at S
  clear ha ha' hb hb'
  go_enter Tryd.func88, Tryd.ntmps88
  go_wp2_with fail
  generalize ((w.alloc (.cells #[.slice A n c, .slice A' n' c'] 50)).alloc (.cells #[.slice D m k, .slice D' m' k'] 50)).alloc (.cells #[.slice none 0 0, .slice none 0 0] 50) = w0 at *
  have K := ratRight_any (S.lie.2.2.2.1) (S.lie.2.2.1)
  rw [frB_yes f.fr] at K
  refine K.mono ?_
  clear K
  rintro e x1 ⟨rfl, B9⟩
  have S := S.next B9
  clear B9
  obtain ⟨⟨r0, r1, q0, q1, rz⟩, ⟨b0, b1, -⟩, ⟨a0, a1, -⟩, -⟩ := S.cel
  go_wp2_with fail
  clear r0 r1 q0 q1 rz b0 b1 a0 a1
  have K := ratRight_any (S.lie.2.1) (S.lie.1)
  rw [frB_yes g.fr] at K
  refine K.mono ?_
  clear K
  rintro e x2 ⟨rfl, B9⟩
  have S := S.next B9
  clear B9
  obtain ⟨⟨r0, r1, q0, q1, rz⟩, ⟨b0, b1, -⟩, ⟨a0, a1, -⟩, -⟩ := S.cel
  go_wp2_with fail
  clear r0 r1 q0 q1 rz b0 b1 a0 a1
  have K := mul_any S.lie.2.2.1 S.lie.1 f.lq g.lq
  rw [fitN_yes h0, fitE_yes h0] at K
  refine K.mono ?_
  clear K
  rintro e x3 ⟨A1, n1, c1, rfl, L1, B9⟩
  have S := (S.next B9).put L1
  clear B9 L1
  obtain ⟨⟨r0, r1, q0, q1, rz⟩, ⟨b0, b1, -⟩, ⟨a0, a1, -⟩, -⟩ := S.cel
  go_wp2_with fail
  clear r0 r1 q0 q1 rz b0 b1 a0 a1
  refine (crossed_big S.lie.2.2.2.2.1 S.lie.2.2.2.1 S.lie.2.2.1 S.lie.2.1 f g h).mono ?_
  rintro e x4 ⟨A2, n2, c2, A3, n3, c3, rfl, L1, L2, B9⟩
  have S := ((S.next B9).put L1).put L2
  clear B9 L1 L2
  obtain ⟨⟨r0, r1, q0, q1, rz⟩, ⟨b0, b1, -⟩, ⟨a0, a1, -⟩, -⟩ := S.cel
  go_wp2_with fail
  go_light
  exact bodyPost_ret (v := .tuple #[.agg #[.slice none 0 0, .slice none 0 0], .int .i64 6]) (by simp [results, Tryd.results88, go_sem, r0, r1]) rfl ⟨_, _, _, _, _, _, rfl, by rw [limbs_zero]; exact Lim.none_ _ _ _ (by decide), by rw [limbs_zero]; exact Lim.none_ _ _ _ (by decide), (S.bl.setCell (by simp only []; omega) _).setCell (by simp only []; omega) _⟩
set_option maxHeartbeats 2000000 in
set_option maxRecDepth 100000 in
theorem joinedSub_low {A A' D D' : Option Addr} {n c n' c' m k m' k' : Nat} {p q p' q' : Nat} {w : World} (ha : Lim w A n c (limbs p)) (ha' : Lim w A' n' c' (limbs q)) (hb : Lim w D m k (limbs p')) (hb' : Lim w D' m' k' (limbs q')) (f : Fq p q) (g : Fq p' q') (h0 : ln (q * q') ≤ 64) (h1 : ln (p * q') ≤ 64) (h2 : ln (p' * q) ≤ 64) (h3 : p * q' < p' * q) : Calls Tryd.prog 88 #[.agg #[.slice A n c, .slice A' n' c'], .agg #[.slice D m k, .slice D' m' k'], (.func (.func 65) #[] #[])] w fun e w' => RetA3 (0, 0, 1) w e w' := by
  have S := (((((Fs.start w).put ha).put ha').put hb).put hb').box (.slice A n c) (.slice A' n' c') |>.box (.slice D m k) (.slice D' m' k') |>.box (.slice none 0 0) (.slice none 0 0)
  simp only [World.size_alloc] at S
  clear ha ha' hb hb'
  go_enter Tryd.func88, Tryd.ntmps88
  go_wp2_with fail
  generalize ((w.alloc (.cells #[.slice A n c, .slice A' n' c'] 50)).alloc (.cells #[.slice D m k, .slice D' m' k'] 50)).alloc (.cells #[.slice none 0 0, .slice none 0 0] 50) = w0 at *
  have K := ratRight_any (S.lie.2.2.2.1) (S.lie.2.2.1)
  rw [frB_yes f.fr] at K
  refine K.mono ?_
  clear K
  rintro e x1 ⟨rfl, B9⟩
  have S := S.next B9
  clear B9
  obtain ⟨⟨r0, r1, q0, q1, rz⟩, ⟨b0, b1, -⟩, ⟨a0, a1, -⟩, -⟩ := S.cel
  go_wp2_with fail
  clear r0 r1 q0 q1 rz b0 b1 a0 a1
  have K := ratRight_any (S.lie.2.1) (S.lie.1)
  rw [frB_yes g.fr] at K
  refine K.mono ?_
  clear K
  rintro e x2 ⟨rfl, B9⟩
  have S := S.next B9
  clear B9
  obtain ⟨⟨r0, r1, q0, q1, rz⟩, ⟨b0, b1, -⟩, ⟨a0, a1, -⟩, -⟩ := S.cel
  go_wp2_with fail
  clear r0 r1 q0 q1 rz b0 b1 a0 a1
  have K := mul_any S.lie.2.2.1 S.lie.1 f.lq g.lq
  rw [fitN_yes h0, fitE_yes h0] at K
  refine K.mono ?_
  clear K
  rintro e x3 ⟨A1, n1, c1, rfl, L1, B9⟩
  have S := (S.next B9).put L1
  clear B9 L1
  obtain ⟨⟨r0, r1, q0, q1, rz⟩, ⟨b0, b1, -⟩, ⟨a0, a1, -⟩, -⟩ := S.cel
  go_wp2_with fail
  clear r0 r1 q0 q1 rz b0 b1 a0 a1
  refine (crossed_yes S.lie.2.2.2.2.1 S.lie.2.2.2.1 S.lie.2.2.1 S.lie.2.1 f g h1 h2).mono ?_
  rintro e x4 ⟨A2, n2, c2, A3, n3, c3, rfl, L1, L2, B9⟩
  have S := ((S.next B9).put L1).put L2
  clear B9 L1 L2
  obtain ⟨⟨r0, r1, q0, q1, rz⟩, ⟨b0, b1, -⟩, ⟨a0, a1, -⟩, -⟩ := S.cel
  go_wp2_with fail
  clear r0 r1 q0 q1 rz b0 b1 a0 a1
  refine (sub_under S.lie.2.1 S.lie.1 h1 h2 h3).mono ?_
  rintro e x5 ⟨rfl, mm, rfl⟩
  have B9 := below_drewN (Below.refl x4.heap.size x4) mm
  have L1 : Lim (x4.drewN mm) none 0 0 (limbs 0) := by rw [limbs_zero]; exact Lim.none_ _ _ _ (by decide)
  generalize x4.drewN mm = x5 at *
  have S := (S.next B9).put L1
  clear B9 L1
  obtain ⟨⟨r0, r1, q0, q1, rz⟩, ⟨b0, b1, -⟩, ⟨a0, a1, -⟩, -⟩ := S.cel
  go_wp2_with fail
  go_light
  exact bodyPost_ret (v := .tuple #[.agg #[.slice none 0 0, .slice none 0 0], .int .i64 1]) (by simp [results, Tryd.results88, go_sem, r0, r1]) rfl ⟨_, _, _, _, _, _, rfl, by rw [limbs_zero]; exact Lim.none_ _ _ _ (by decide), by rw [limbs_zero]; exact Lim.none_ _ _ _ (by decide), (S.bl.setCell (by simp only []; omega) _).setCell (by simp only []; omega) _⟩
set_option maxHeartbeats 2000000 in
set_option maxRecDepth 100000 in
theorem joinedSub_yes {A A' D D' : Option Addr} {n c n' c' m k m' k' : Nat} {p q p' q' : Nat} {w : World} (ha : Lim w A n c (limbs p)) (ha' : Lim w A' n' c' (limbs q)) (hb : Lim w D m k (limbs p')) (hb' : Lim w D' m' k' (limbs q')) (f : Fq p q) (g : Fq p' q') (h0 : ln (q * q') ≤ 64) (h1 : ln (p * q') ≤ 64) (h2 : ln (p' * q) ≤ 64) (h3 : p' * q ≤ p * q') : Calls Tryd.prog 88 #[.agg #[.slice A n c, .slice A' n' c'], .agg #[.slice D m k, .slice D' m' k'], (.func (.func 65) #[] #[])] w fun e w' => RetA3 (red (p * q' - p' * q) (q * q')) w e w' := by
  have S := (((((Fs.start w).put ha).put ha').put hb).put hb').box (.slice A n c) (.slice A' n' c') |>.box (.slice D m k) (.slice D' m' k') |>.box (.slice none 0 0) (.slice none 0 0)
  simp only [World.size_alloc] at S
  clear ha ha' hb hb'
  go_enter Tryd.func88, Tryd.ntmps88
  go_wp2_with fail
  generalize ((w.alloc (.cells #[.slice A n c, .slice A' n' c'] 50)).alloc (.cells #[.slice D m k, .slice D' m' k'] 50)).alloc (.cells #[.slice none 0 0, .slice none 0 0] 50) = w0 at *
  have K := ratRight_any (S.lie.2.2.2.1) (S.lie.2.2.1)
  rw [frB_yes f.fr] at K
  refine K.mono ?_
  clear K
  rintro e x1 ⟨rfl, B9⟩
  have S := S.next B9
  clear B9
  obtain ⟨⟨r0, r1, q0, q1, rz⟩, ⟨b0, b1, -⟩, ⟨a0, a1, -⟩, -⟩ := S.cel
  go_wp2_with fail
  clear r0 r1 q0 q1 rz b0 b1 a0 a1
  have K := ratRight_any (S.lie.2.1) (S.lie.1)
  rw [frB_yes g.fr] at K
  refine K.mono ?_
  clear K
  rintro e x2 ⟨rfl, B9⟩
  have S := S.next B9
  clear B9
  obtain ⟨⟨r0, r1, q0, q1, rz⟩, ⟨b0, b1, -⟩, ⟨a0, a1, -⟩, -⟩ := S.cel
  go_wp2_with fail
  clear r0 r1 q0 q1 rz b0 b1 a0 a1
  have K := mul_any S.lie.2.2.1 S.lie.1 f.lq g.lq
  rw [fitN_yes h0, fitE_yes h0] at K
  refine K.mono ?_
  clear K
  rintro e x3 ⟨A1, n1, c1, rfl, L1, B9⟩
  have S := (S.next B9).put L1
  clear B9 L1
  obtain ⟨⟨r0, r1, q0, q1, rz⟩, ⟨b0, b1, -⟩, ⟨a0, a1, -⟩, -⟩ := S.cel
  go_wp2_with fail
  clear r0 r1 q0 q1 rz b0 b1 a0 a1
  refine (crossed_yes S.lie.2.2.2.2.1 S.lie.2.2.2.1 S.lie.2.2.1 S.lie.2.1 f g h1 h2).mono ?_
  rintro e x4 ⟨A2, n2, c2, A3, n3, c3, rfl, L1, L2, B9⟩
  have S := ((S.next B9).put L1).put L2
  clear B9 L1 L2
  obtain ⟨⟨r0, r1, q0, q1, rz⟩, ⟨b0, b1, -⟩, ⟨a0, a1, -⟩, -⟩ := S.cel
  go_wp2_with fail
  clear r0 r1 q0 q1 rz b0 b1 a0 a1
  refine (sub_any S.lie.2.1 S.lie.1 h1 h2 h3).mono ?_
  rintro e x5 ⟨A4, n4, c4, rfl, L1, B9⟩
  have S := (S.next B9).put L1
  clear B9 L1
  obtain ⟨⟨r0, r1, q0, q1, rz⟩, ⟨b0, b1, -⟩, ⟨a0, a1, -⟩, -⟩ := S.cel
  go_wp2_with fail
  clear r0 r1 q0 q1 rz b0 b1 a0 a1
  refine (reduced_any S.lie.1 S.lie.2.2.2.1 (Nat.le_trans (ln_mono (Nat.sub_le _ _)) h1) h0 (Nat.mul_ne_zero f.q0 g.q0)).mono ?_
  rintro e x4 ⟨A6, n6, c6, A7, n7, c7, rfl, L3, L4, B9⟩
  have S := ((S.next B9).put L3).put L4
  clear B9 L3 L4
  obtain ⟨⟨r0, r1, q0, q1, rz⟩, ⟨b0, b1, -⟩, ⟨a0, a1, -⟩, -⟩ := S.cel
  go_wp2_with fail
  go_light
  exact bodyPost_ret (v := .tuple #[.agg #[.slice A6 n6 c6, .slice A7 n7 c7], .int .i64 0]) (by simp [results, Tryd.results88, go_sem, r0, r1]) rfl ⟨_, _, _, _, _, _, rfl, S.lie.2.1.put2 r0 r1 _ _, S.lie.1.put2 r0 r1 _ _, (S.bl.setCell (by simp only []; omega) _).setCell (by simp only []; omega) _⟩
set_option maxHeartbeats 2000000 in
set_option maxRecDepth 100000 in
theorem ratSub_of {A A' D D' : Option Addr} {n c n' c' m k m' k' : Nat} {xs ys us vs : List Nat} {r : Ans} {w : World} (ha : Lim w A n c xs) (ha' : Lim w A' n' c' ys) (hb : Lim w D m k us) (hb' : Lim w D' m' k' vs) (K : ∀ W, Lim W A n c xs → Lim W A' n' c' ys → Lim W D m k us → Lim W D' m' k' vs → Calls Tryd.prog 88 #[.agg #[.slice A n c, .slice A' n' c'], .agg #[.slice D m k, .slice D' m' k'], (.func (.func 65) #[] #[])] W fun e w' => RetA3 r W e w') : Calls Tryd.prog 40 #[.agg #[.slice A n c, .slice A' n' c'], .agg #[.slice D m k, .slice D' m' k']] w fun e w' => RetA3 r w e w' := by
  have K := Lib.hid K
  have S := (((((Fs.start w).put ha).put ha').put hb).put hb').box (.slice A n c) (.slice A' n' c') |>.box (.slice D m k) (.slice D' m' k') |>.box (.slice none 0 0) (.slice none 0 0)
  simp only [World.size_alloc] at S
  clear ha ha' hb hb'
  go_enter Tryd.func40, Tryd.ntmps40
  go_wp2_with fail
  generalize ((w.alloc (.cells #[.slice A n c, .slice A' n' c'] 50)).alloc (.cells #[.slice D m k, .slice D' m' k'] 50)).alloc (.cells #[.slice none 0 0, .slice none 0 0] 50) = w0 at *
  refine (K.out _ S.lie.2.2.2.1 S.lie.2.2.1 S.lie.2.1 S.lie.1).mono ?_
  rintro e x3 ⟨A1, n1, c1, A2, n2, c2, rfl, L1, L2, B9⟩
  have S := ((S.next B9).put L1).put L2
  clear B9 L1 L2
  obtain ⟨⟨r0, r1, q0, q1, rz⟩, ⟨b0, b1, -⟩, ⟨a0, a1, -⟩, -⟩ := S.cel
  go_wp2_with fail
  go_light
  exact bodyPost_ret (v := .tuple #[.agg #[.slice A1 n1 c1, .slice A2 n2 c2], .int .i64 r.2.2]) (by simp [results, Tryd.results40, go_sem, r0, r1]) rfl ⟨_, _, _, _, _, _, rfl, S.lie.2.1.put2 r0 r1 _ _, S.lie.1.put2 r0 r1 _ _, (S.bl.setCell (by simp only []; omega) _).setCell (by simp only []; omega) _⟩
end Go.Proofs.YtdnikdocfbbkkaaDoor
