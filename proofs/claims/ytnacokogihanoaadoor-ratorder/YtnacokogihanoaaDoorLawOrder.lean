/- For every three pairs of limbs the law RatOrder answers true: the order goes through, fractions are equal just if their limbs are, and one is less just if it cannot be taken from. No condition beyond the row; the tables of unicode/utf8 start as the program lays them (tied). -/
import Derived.Test.YtnacokogihanoaaDoorRG
namespace Go.Proofs.YtnacokogihanoaaDoor.ratOrder
open Go.ChangeShapes Go.WideShapes Go.ChangeAt Go.RowKit
open Go.Proofs.YtnacokogihanoaaDoor
set_option linter.unusedVariables false
set_option linter.unusedSimpArgs false

set_option maxHeartbeats 8000000 in
set_option maxRecDepth 100000 in
theorem notfew {A A' D D' E E' : Option Addr} {n c n' c' m k m' k' i j i' j' : Nat} {xs ys us vs gs hs : List Nat} {w : World} (h0 : Lim w A n c xs) (h0' : Lim w A' n' c' ys) (h1 : Lim w D m k us) (h1' : Lim w D' m' k' vs) (h2 : Lim w E i j gs) (h2' : Lim w E' i' j' hs) (f : ¬ ∀ t ∈ ([⟨A, n, c, xs, A', n', c', ys⟩, ⟨D, m, k, us, D', m', k', vs⟩, ⟨E, i, j, gs, E', i', j', hs⟩] : List It), t.Few) : Calls Tryd.prog 9 #[.agg #[.slice A n c, .slice A' n' c'], .agg #[.slice D m k, .slice D' m' k'], .agg #[.slice E i j, .slice E' i' j']] w fun e w' => e = .returned (.bool true) ∧ Below w.heap.size w w' := by
  have FB := Lib.hid (fewB_no f)
  have S := (((((((Fs.start w).put h0).put h0').put h1).put h1').put h2).put h2') |>.box (.slice A n c) (.slice A' n' c') |>.box (.slice D m k) (.slice D' m' k') |>.box (.slice E i j) (.slice E' i' j')
  simp only [World.size_alloc] at S
  clear h0 h0' h1 h1' h2 h2' f
  go_enter Tryd.func9, Tryd.ntmps9
  go_upto_region 1 with fail
  generalize ((w.alloc (.cells #[.slice A n c, .slice A' n' c'] 50)).alloc (.cells #[.slice D m k, .slice D' m' k'] 50)).alloc (.cells #[.slice E i j, .slice E' i' j'] 50) = w0 at *
  obtain ⟨⟨x20, x21, -⟩, ⟨x10, x11, -⟩, ⟨x00, x01, -⟩, -⟩ := S.cel
  go_wp2_with fail
  have L0 : ∀ t ∈ ([⟨A, n, c, xs, A', n', c', ys⟩, ⟨D, m, k, us, D', m', k', vs⟩, ⟨E, i, j, gs, E', i', j', hs⟩] : List It), t.At w0 := by
    intro t ht
    simp only [List.mem_cons, List.not_mem_nil, or_false] at ht
    rcases ht with rfl | rfl | rfl
    · exact ⟨S.lie.2.2.2.2.2.1, S.lie.2.2.2.2.1⟩
    · exact ⟨S.lie.2.2.2.1, S.lie.2.2.1⟩
    · exact ⟨S.lie.2.1, S.lie.1⟩
  have K := few_any (k := 3) (its_new w0 [⟨A, n, c, xs, A', n', c', ys⟩, ⟨D, m, k, us, D', m', k', vs⟩, ⟨E, i, j, gs, E', i', j', hs⟩] #[.slice A n c, .slice A' n' c', .slice D m k, .slice D' m' k', .slice E i j, .slice E' i' j'] rfl L0) rfl (by omega)
  rw [FB.out] at K
  clear L0
  refine K.mono ?_
  clear K
  rintro e w1 ⟨rfl, B1⟩
  have S := (S.alloc (.cells #[.slice A n c, .slice A' n' c', .slice D m k, .slice D' m' k', .slice E i j, .slice E' i' j'] 50)).next B1
  clear B1
  clear x20 x21 x10 x11 x00 x01
  obtain ⟨⟨x20, x21, -⟩, ⟨x10, x11, -⟩, ⟨x00, x01, -⟩, -⟩ := S.cel
  go_wp2_with fail
  refine (awake3 _).mono ?_
  rintro e y1 ⟨rfl, B1⟩
  have S := S.next B1
  clear B1
  go_wp2_with fail
  go_ret
  exact ⟨rfl, S.bl⟩
theorem sgn_cases (a b : Nat) : (sgn a b = -1 ∧ sgn b a = 1 ∧ a < b) ∨ (sgn a b = 0 ∧ sgn b a = 0 ∧ a = b) ∨ (sgn a b = 1 ∧ sgn b a = -1 ∧ b < a) := by
  rcases Nat.lt_trichotomy a b with h | h | h
  · exact Or.inl ⟨sgn_lt h, sgn_gt h, h⟩
  · subst h; exact Or.inr (Or.inl ⟨sgn_eq a, sgn_eq a, rfl⟩)
  · exact Or.inr (Or.inr ⟨sgn_gt h, sgn_lt h, h⟩)
/-- What the order tells of three fractions. -/
inductive Ord3 : Int → Int → Int → Int → Bool → Int → Prop where
  | l1 (y z : Int) (h : (y = -1 ∧ z = -1) ∨ (y = 0 ∧ z = -1) ∨ (y = 1 ∧ (z = -1 ∨ z = 0 ∨ z = 1))) : Ord3 (-1) 1 y z false 1
  | e1 (y : Int) (h : y = -1 ∨ y = 0 ∨ y = 1) : Ord3 0 0 y y true 0
  | g1 (y z : Int) (h : (y = 1 ∧ z = 1) ∨ (y = 0 ∧ z = 1) ∨ (y = -1 ∧ (z = -1 ∨ z = 0 ∨ z = 1))) : Ord3 1 (-1) y z false 0
theorem order_num {p q p' q' r s : Nat} (ha : F6 p q) (hb : F6 p' q') (hc : F6 r s) : ∃ (x x' y z : Int) (b : Bool) (d : Ans), cmpN p q p' q' = x ∧ cmpE p q p' q' = 0 ∧ cmpN p' q' p q = x' ∧ cmpE p' q' p q = 0 ∧ cmpN p' q' r s = y ∧ cmpE p' q' r s = 0 ∧ cmpN p q r s = z ∧ cmpE p q r s = 0 ∧ subR p q p' q' = d ∧ (sameB (limbs p) (limbs p') && sameB (limbs q) (limbs q')) = b ∧ Ord3 x x' y z b d.2.2 := by
  obtain ⟨c1, d1⟩ := ha.is.cmp hb.is (by decide) (by decide)
  obtain ⟨c2, d2⟩ := hb.is.cmp ha.is (by decide) (by decide)
  obtain ⟨c3, d3⟩ := hb.is.cmp hc.is (by decide) (by decide)
  obtain ⟨c4, d4⟩ := ha.is.cmp hc.is (by decide) (by decide)
  refine ⟨_, _, _, _, _, _, c1, d1, c2, d2, c3, d3, c4, d4, rfl, rfl, ?_⟩
  have q0 := Nat.pos_of_ne_zero ha.f.q0; have q0' := Nat.pos_of_ne_zero hb.f.q0; have s0 := Nat.pos_of_ne_zero hc.f.q0
  have ns : ¬ (p = p' ∧ q = q') → (sameB (limbs p) (limbs p') && sameB (limbs q) (limbs q')) = false := fun h => by
    by_cases e : p = p'
    · rw [sameB_no (xs := limbs q) (fun z => h ⟨e, limbs_inj z⟩), Bool.and_false]
    · rw [sameB_no (fun z => e (limbs_inj z)), Bool.false_and]
  rcases sgn_cases (p * q') (p' * q) with ⟨a1, a2, a3⟩ | ⟨a1, a2, a3⟩ | ⟨a1, a2, a3⟩
  · rw [a1, a2, ns (fun z => by rw [z.1, z.2] at a3; omega), ha.is.low hb.is (by decide) (by decide) (by decide) a3]
    refine .l1 _ _ ?_
    rcases sgn_cases (p' * s) (r * q') with ⟨b1, _, b3⟩ | ⟨b1, _, b3⟩ | ⟨b1, _, b3⟩
    · have : p * s < r * q := by
        have h1 := Nat.mul_lt_mul_of_pos_right a3 s0
        have h2 := Nat.mul_lt_mul_of_pos_right b3 q0
        exact Nat.lt_of_mul_lt_mul_right (a := q') (by
          have e1 : p * q' * s = p * s * q' := by grind
          have e2 : p' * q * s = p' * s * q := by grind
          have e3 : r * q' * q = r * q * q' := by grind
          omega)
      exact Or.inl ⟨b1, sgn_lt this⟩
    · have : p * s < r * q := by
        have h1 := Nat.mul_lt_mul_of_pos_right a3 s0
        exact Nat.lt_of_mul_lt_mul_right (a := q') (by
          have e1 : p * q' * s = p * s * q' := by grind
          have e2 : p' * q * s = r * q * q' := by grind
          omega)
      exact Or.inr (Or.inl ⟨b1, sgn_lt this⟩)
    · refine Or.inr (Or.inr ⟨b1, ?_⟩)
      rcases sgn_cases (p * s) (r * q) with ⟨g1, _⟩ | ⟨g1, _⟩ | ⟨g1, _⟩
      · exact Or.inl g1
      · exact Or.inr (Or.inl g1)
      · exact Or.inr (Or.inr g1)
  · obtain ⟨rfl, rfl⟩ := (same_num ha.f hb.f).1 a3
    obtain ⟨t1, t2, te, _⟩ := ha.is.sub ha.is (by decide) (by decide) (by decide) (Nat.le_refl _)
    rw [a1, sameB_yes, sameB_yes, te]
    refine .e1 _ ?_
    rcases sgn_cases (p * s) (r * q) with ⟨g1, _⟩ | ⟨g1, _⟩ | ⟨g1, _⟩
    · exact Or.inl g1
    · exact Or.inr (Or.inl g1)
    · exact Or.inr (Or.inr g1)
  · obtain ⟨t1, t2, te, _⟩ := ha.is.sub hb.is (by decide) (by decide) (by decide) (Nat.le_of_lt a3)
    rw [a1, a2, ns (fun z => by rw [z.1, z.2] at a3; omega), te]
    refine .g1 _ _ ?_
    rcases sgn_cases (p' * s) (r * q') with ⟨b1, _, b3⟩ | ⟨b1, _, b3⟩ | ⟨b1, _, b3⟩
    · refine Or.inr (Or.inr ⟨b1, ?_⟩)
      rcases sgn_cases (p * s) (r * q) with ⟨g1, _⟩ | ⟨g1, _⟩ | ⟨g1, _⟩
      · exact Or.inl g1
      · exact Or.inr (Or.inl g1)
      · exact Or.inr (Or.inr g1)
    · have : r * q < p * s := by
        have h1 := Nat.mul_lt_mul_of_pos_right a3 s0
        exact Nat.lt_of_mul_lt_mul_right (a := q') (by
          have e1 : p * q' * s = p * s * q' := by grind
          have e2 : p' * q * s = r * q * q' := by grind
          omega)
      exact Or.inr (Or.inl ⟨b1, sgn_gt this⟩)
    · have : r * q < p * s := by
        have h1 := Nat.mul_lt_mul_of_pos_right a3 s0
        have h2 := Nat.mul_lt_mul_of_pos_right b3 q0
        exact Nat.lt_of_mul_lt_mul_right (a := q') (by
          have e1 : p * q' * s = p * s * q' := by grind
          have e2 : p' * q * s = p' * s * q := by grind
          have e3 : r * q' * q = r * q * q' := by grind
          omega)
      exact Or.inl ⟨b1, sgn_gt this⟩
set_option maxHeartbeats 8000000 in
set_option maxRecDepth 100000 in
theorem main {A A' D D' E E' : Option Addr} {n c n' c' m k m' k' i j i' j' : Nat} {p q p' q' r s : Nat} {w : World} (h0 : Lim w A n c (limbs p)) (h0' : Lim w A' n' c' (limbs q)) (h1 : Lim w D m k (limbs p')) (h1' : Lim w D' m' k' (limbs q')) (h2 : Lim w E i j (limbs r)) (h2' : Lim w E' i' j' (limbs s)) (f0 : F6 p q) (f1 : F6 p' q') (f2 : F6 r s) : Calls Tryd.prog 9 #[.agg #[.slice A n c, .slice A' n' c'], .agg #[.slice D m k, .slice D' m' k'], .agg #[.slice E i j, .slice E' i' j']] w fun e w' => e = .returned (.bool true) ∧ Below w.heap.size w w' := by
  have FB := Lib.hid (fewB_yes (l := [⟨A, n, c, limbs p, A', n', c', limbs q⟩, ⟨D, m, k, limbs p', D', m', k', limbs q'⟩, ⟨E, i, j, limbs r, E', i', j', limbs s⟩]) (by
    intro t ht
    simp only [List.mem_cons, List.not_mem_nil, or_false] at ht
    rcases ht with rfl | rfl | rfl
    · exact few_num h0 h0' f0
    · exact few_num h1 h1' f1
    · exact few_num h2 h2' f2))
  obtain ⟨x, x', y, z, b, ⟨da, db, dc⟩, e1, e2, e3, e4, e5, e6, e7, e8, e9, e10, ord⟩ := order_num f0 f1 f2
  have E1 := Lib.hid e1; have E2 := Lib.hid e2; have E3 := Lib.hid e3; have E4 := Lib.hid e4; have E5 := Lib.hid e5; have E6 := Lib.hid e6; have E7 := Lib.hid e7; have E8 := Lib.hid e8; have E9 := Lib.hid e9; have E10 := Lib.hid e10
  have F0 := Lib.hid f0.f; have F1 := Lib.hid f1.f; have F2 := Lib.hid f2.f; have OO := Lib.hid ord
  clear f0 f1 f2 ord e1 e2 e3 e4 e5 e6 e7 e8 e9 e10
  have S := (((((((Fs.start w).put h0).put h0').put h1).put h1').put h2).put h2') |>.box (.slice A n c) (.slice A' n' c') |>.box (.slice D m k) (.slice D' m' k') |>.box (.slice E i j) (.slice E' i' j')
  simp only [World.size_alloc] at S
  clear h0 h0' h1 h1' h2 h2'
  go_enter Tryd.func9, Tryd.ntmps9
  go_upto_region 1 with fail
  generalize ((w.alloc (.cells #[.slice A n c, .slice A' n' c'] 50)).alloc (.cells #[.slice D m k, .slice D' m' k'] 50)).alloc (.cells #[.slice E i j, .slice E' i' j'] 50) = w0 at *
  obtain ⟨⟨x20, x21, -⟩, ⟨x10, x11, -⟩, ⟨x00, x01, -⟩, -⟩ := S.cel
  go_wp2_with fail
  have L0 : ∀ t ∈ ([⟨A, n, c, limbs p, A', n', c', limbs q⟩, ⟨D, m, k, limbs p', D', m', k', limbs q'⟩, ⟨E, i, j, limbs r, E', i', j', limbs s⟩] : List It), t.At w0 := by
    intro t ht
    simp only [List.mem_cons, List.not_mem_nil, or_false] at ht
    rcases ht with rfl | rfl | rfl
    · exact ⟨S.lie.2.2.2.2.2.1, S.lie.2.2.2.2.1⟩
    · exact ⟨S.lie.2.2.2.1, S.lie.2.2.1⟩
    · exact ⟨S.lie.2.1, S.lie.1⟩
  have K := few_any (k := 3) (its_new w0 [⟨A, n, c, limbs p, A', n', c', limbs q⟩, ⟨D, m, k, limbs p', D', m', k', limbs q'⟩, ⟨E, i, j, limbs r, E', i', j', limbs s⟩] #[.slice A n c, .slice A' n' c', .slice D m k, .slice D' m' k', .slice E i j, .slice E' i' j'] rfl L0) rfl (by omega)
  rw [FB.out] at K
  clear L0
  refine K.mono ?_
  clear K
  rintro e w1 ⟨rfl, B1⟩
  have S := (S.alloc (.cells #[.slice A n c, .slice A' n' c', .slice D m k, .slice D' m' k', .slice E i j, .slice E' i' j'] 50)).next B1
  clear B1
  clear x20 x21 x10 x11 x00 x01
  obtain ⟨⟨x20, x21, -⟩, ⟨x10, x11, -⟩, ⟨x00, x01, -⟩, -⟩ := S.cel
  go_wp2_with fail
  have K := ratCmp_any S.lie.2.2.2.2.2.1 S.lie.2.2.2.2.1 S.lie.2.2.2.1 S.lie.2.2.1 F0.out F1.out
  rw [E1.out, E2.out] at K
  refine K.mono ?_
  clear K
  clear x20 x21 x10 x11 x00 x01
  rintro e y1 ⟨rfl, B1⟩
  have S := S.next B1
  clear B1
  obtain ⟨⟨x20, x21, -⟩, ⟨x10, x11, -⟩, ⟨x00, x01, -⟩, -⟩ := S.cel
  go_wp2_with fail
  have K := ratCmp_any S.lie.2.2.2.1 S.lie.2.2.1 S.lie.2.2.2.2.2.1 S.lie.2.2.2.2.1 F1.out F0.out
  rw [E3.out, E4.out] at K
  refine K.mono ?_
  clear K
  clear x20 x21 x10 x11 x00 x01
  rintro e y2 ⟨rfl, B1⟩
  have S := S.next B1
  clear B1
  obtain ⟨⟨x20, x21, -⟩, ⟨x10, x11, -⟩, ⟨x00, x01, -⟩, -⟩ := S.cel
  go_wp2_with fail
  have K := ratCmp_any S.lie.2.2.2.1 S.lie.2.2.1 S.lie.2.1 S.lie.1 F1.out F2.out
  rw [E5.out, E6.out] at K
  refine K.mono ?_
  clear K
  clear x20 x21 x10 x11 x00 x01
  rintro e y3 ⟨rfl, B1⟩
  have S := S.next B1
  clear B1
  obtain ⟨⟨x20, x21, -⟩, ⟨x10, x11, -⟩, ⟨x00, x01, -⟩, -⟩ := S.cel
  go_wp2_with fail
  have K := ratCmp_any S.lie.2.2.2.2.2.1 S.lie.2.2.2.2.1 S.lie.2.1 S.lie.1 F0.out F2.out
  rw [E7.out, E8.out] at K
  refine K.mono ?_
  clear K
  clear x20 x21 x10 x11 x00 x01
  rintro e y4 ⟨rfl, B1⟩
  have S := S.next B1
  clear B1
  obtain ⟨⟨x20, x21, -⟩, ⟨x10, x11, -⟩, ⟨x00, x01, -⟩, -⟩ := S.cel
  go_wp2_with fail
  have K := ratSub_any S.lie.2.2.2.2.2.1 S.lie.2.2.2.2.1 S.lie.2.2.2.1 S.lie.2.2.1 F0.out F1.out
  rw [E9.out] at K
  refine K.mono ?_
  clear K
  clear x20 x21 x10 x11 x00 x01
  rintro e y5 ⟨JA5, jn5, jc5, JB5, jm5, jk5, rfl, M1, M2, B1⟩
  have S := S.next B1
  clear M1 M2 B1
  have S := S.box (.slice JA5 jn5 jc5) (.slice JB5 jm5 jk5)
  generalize hv5 : y5.alloc (.cells #[.slice JA5 jn5 jc5, .slice JB5 jm5 jk5] 50) = v5 at *
  obtain ⟨⟨o0, o1, -⟩, ⟨x20, x21, -⟩, ⟨x10, x11, -⟩, ⟨x00, x01, -⟩, -⟩ := S.cel
  go_upto_region 8 with fail
  clear hv5
  generalize y5.heap.size = z5 at *
  have K := Lib.hid (same3_any S.lie.2.2.2.2.2.1 S.lie.2.2.2.2.1 S.lie.2.2.2.1 S.lie.2.2.1)
  rw [E10.out] at K
  have O := OO.out
  clear OO
  clear E1 E2 E3 E4 E5 E6 E7 E8 E9 E10 F0 F1 F2
  cases O with
  | l1 _ _ h =>
    rcases h with ⟨rfl, rfl⟩ | ⟨rfl, rfl⟩ | ⟨rfl, rfl | rfl | rfl⟩
    all_goals
      go_wp2_with fail
      refine K.out.mono ?_
      rintro e s1 ⟨rfl, B1⟩
      have S := S.next B1
      clear B1 K
      go_wp2_with fail
      refine (awake3 _).mono ?_
      rintro e s2 ⟨rfl, B1⟩
      have S := S.next B1
      clear B1
      go_wp2_with fail
      go_ret
      exact ⟨rfl, S.bl⟩
  | e1 _ h =>
    rcases h with rfl | rfl | rfl
    all_goals
      go_wp2_with fail
      refine K.out.mono ?_
      rintro e s1 ⟨rfl, B1⟩
      have S := S.next B1
      clear B1 K
      go_wp2_with fail
      refine (awake3 _).mono ?_
      rintro e s2 ⟨rfl, B1⟩
      have S := S.next B1
      clear B1
      go_wp2_with fail
      go_ret
      exact ⟨rfl, S.bl⟩
  | g1 _ _ h =>
    rcases h with ⟨rfl, rfl⟩ | ⟨rfl, rfl⟩ | ⟨rfl, rfl | rfl | rfl⟩
    all_goals
      go_wp2_with fail
      refine K.out.mono ?_
      rintro e s1 ⟨rfl, B1⟩
      have S := S.next B1
      clear B1 K
      go_wp2_with fail
      refine (awake3 _).mono ?_
      rintro e s2 ⟨rfl, B1⟩
      have S := S.next B1
      clear B1
      go_wp2_with fail
      go_ret
      exact ⟨rfl, S.bl⟩
theorem walk {A A' D D' E E' : Option Addr} {n c n' c' m k m' k' i j i' j' : Nat} {xs ys us vs gs hs : List Nat} {w : World} (h0 : Lim w A n c xs) (h0' : Lim w A' n' c' ys) (h1 : Lim w D m k us) (h1' : Lim w D' m' k' vs) (h2 : Lim w E i j gs) (h2' : Lim w E' i' j' hs) : Calls Tryd.prog 9 #[.agg #[.slice A n c, .slice A' n' c'], .agg #[.slice D m k, .slice D' m' k'], .agg #[.slice E i j, .slice E' i' j']] w fun e w' => e = .returned (.bool true) ∧ Below w.heap.size w w' := by
  by_cases f : ∀ t ∈ ([⟨A, n, c, xs, A', n', c', ys⟩, ⟨D, m, k, us, D', m', k', vs⟩, ⟨E, i, j, gs, E', i', j', hs⟩] : List It), t.Few
  · have g0 := f ⟨A, n, c, xs, A', n', c', ys⟩ (by simp)
    obtain ⟨f0, e0, e0'⟩ := num_few h0 h0' g0
    have g1 := f ⟨D, m, k, us, D', m', k', vs⟩ (by simp)
    obtain ⟨f1, e1, e1'⟩ := num_few h1 h1' g1
    have g2 := f ⟨E, i, j, gs, E', i', j', hs⟩ (by simp)
    obtain ⟨f2, e2, e2'⟩ := num_few h2 h2' g2
    exact main (e0 ▸ h0) (e0' ▸ h0') (e1 ▸ h1) (e1' ▸ h1') (e2 ▸ h2) (e2' ▸ h2') f0 f1 f2
  · exact notfew h0 h0' h1 h1' h2 h2' f

set_option maxRecDepth 100000 in
theorem lifted (os : Os) (started : os.Started) (H : Type) (enc : TypeId × Value → H) :
    ReturnsInHanded {} Tryd.checked os 9 .any (fun w args => (Rows.ratOrderSpec.pre enc Tryd.prog Tryd.f9 Rows.ratOrderRow.domain false w args ∧ laidMetH Tryd.prog Rows.ratOrderRow.laid w) ∧ sizedMet enc Tryd.prog Tryd.f9 (OpenSpec.ofChange Rows.ratOrderSpec) false w args)
      (Rows.ratOrderSpec.post enc Tryd.prog Tryd.f9 false true false false) := by
  refine returnsInHanded_of_change_and (C := Tryd.checked) (X := fun w _ => laidMetH Tryd.prog Rows.ratOrderRow.laid w) (fun _ _ _ hh h => h.of_heap hh) own started (by kernel_rfl) Tryd.func9
    (ChangeSpec.witness_shaped (enc := enc) (C := Tryd.checked) (os := os) (X := fun w _ => laidMetH Tryd.prog Rows.ratOrderRow.laid w) false (World.laidAll Tryd.prog os Rows.ratOrderRow.laid) #[.agg #[.slice none 0 0, .slice none 0 0], .agg #[.slice none 0 0, .slice none 0 0], .agg #[.slice none 0 0, .slice none 0 0]] 8 (World.laidAll_os _ _ _)
      (World.shaped_of_ZipB (by kernel_rfl) (by kernel_rfl)) (by kernel_rfl) (by kernel_rfl) (by kernel_rfl)
      (by rw [MakeChecks.laidMetH_plain _ _ _ (by kernel_rfl)]; exact laidMet_laidAll _ (by kernel_rfl) (by kernel_rfl))) ?_
  intro W base args ds gs before hval0 hW _ _ _ _
  have hval : ∀ (j : Nat) t v, Tryd.f9.params[j]? = some t → args[j]? = some v → Value.okWide Tryd.prog W .any base t v := hval0
  have hW' := hW
  obtain ⟨p, q, hA0, hV, rfl, _, _⟩ := hW
  have hA : DataW.TrodAll enc Tryd.prog W 0 (fun _ => true) true Tryd.f9.params.toList args.toList ds p := hA0
  rw [Tryd.params9] at hA hval
  obtain ⟨v0, v1, v2, d0, d1, d2, p0, p1, p2, rfl, rfl, rfl, h0t, h1t, h2t⟩ := trodAll_three hA
  obtain ⟨rfl, rfl⟩ := trodVars_none hV
  obtain ⟨⟨A, n, c, xs, A', n', c', ys⟩, rfl, h0, h0'⟩ := open_rat (hval 0 50 v0 rfl rfl) h0t
  obtain ⟨⟨D, m, k, us, D', m', k', vs⟩, rfl, h1, h1'⟩ := open_rat (hval 1 50 v1 rfl rfl) h1t
  obtain ⟨⟨E, i, j, gs, E', i', j', hs⟩, rfl, h2, h2'⟩ := open_rat (hval 2 50 v2 rfl rfl) h2t
  clear hA0 hval0
  simp only [List.append_nil] at hW'
  have hlt : ∀ x ∈ p0 ++ p1 ++ p2, x.block < W.heap.size := fun x hx => by simpa using hW'.lt x (by simpa using hx)
  refine (walk h0 h0' h1 h1' h2 h2').mono fun e W' ⟨he, hbl⟩ => ?_
  subst he
  refine ⟨_, rfl, post_args hW' (fun _ _ _ => trodAll_mk1 (shut_bool Tryd.underlying4 _)) ?_ (fun _ => rfl) hbl⟩
  have t0 := Below.trod laidOut readable_rat typed_rat h0t hbl (fun x hx => hlt x (List.mem_append_left _ (List.mem_append_left _ hx)))
  have t1 := Below.trod laidOut readable_rat typed_rat h1t hbl (fun x hx => hlt x (List.mem_append_left _ (List.mem_append_right _ hx)))
  have t2 := Below.trod laidOut readable_rat typed_rat h2t hbl (fun x hx => hlt x (List.mem_append_right _ hx))
  exact (List.append_assoc p0 p1 p2) ▸ trodAll_mk3 t0 t1 t2

theorem holds : Rows.RatOrderSaid :=
  OpenClaim.holds_of_wide 9 Tryd.f9 rfl rfl rfl rfl rfl rfl rfl ⟨rfl, rfl, rfl, rfl, rfl⟩ rfl rfl rfl rfl rfl (by kernel_rfl) Tryd.func9 (by kernel_rfl)
    (of_decide_eq_true (by kernel_rfl)) (by unfold Func.isWrapper; first | (rw [if_pos (by decide +kernel)]; kernel_rfl) | (rw [if_neg (by decide +kernel)]; exact ⟨rfl, rfl⟩))
    (fun os started H enc _ => lifted os started H enc)
theorem proved : Rows.RatOrderCardSaid :=
  Claim7.holds_tied_plain_at .later [] [.data, .pinned] true (true, "7bac054c24a4a5cdd971a304af75554519beee4c5270e6492823ef9c09dcec6f") false
    holds (fun _ h => by cases h) (by kernel_rfl) (fun _ h => by cases h) ratOrder_row_tie rfl ⟨rfl, rfl⟩ (by kernel_rfl) rfl
    (fun f fn hf hfn => by
      obtain rfl : f = 9 := Option.some.inj ((show Tryd.prog.funcNamed "samphire/samphirelaw03.RatOrder" = some 9 by kernel_rfl).symm.trans hf) |>.symm
      obtain rfl : fn = Tryd.f9 := (Option.some.inj (Tryd.func9.symm.trans hfn)).symm
      exact ⟨by kernel_rfl, fun j t ht => by
        rw [Tryd.params9] at ht
        rcases j with _ | _ | _ | j
        · obtain rfl : t = 50 := by simpa using ht.symm
          exact (show Tryd.prog.wantsStandIn 50 = false by kernel_rfl)
        · obtain rfl : t = 50 := by simpa using ht.symm
          exact (show Tryd.prog.wantsStandIn 50 = false by kernel_rfl)
        · obtain rfl : t = 50 := by simpa using ht.symm
          exact (show Tryd.prog.wantsStandIn 50 = false by kernel_rfl)
        · simp at ht⟩)
    (by kernel_rfl)
#print axioms proved
end Go.Proofs.YtnacokogihanoaaDoor.ratOrder
