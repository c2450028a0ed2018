/- For every two pairs of limbs the law RatTells answers true: whether each is a fraction, their order, sum, difference, product and quotient are what the document says, or they are refused. No condition beyond the row; the tables of unicode/utf8 start as the program lays them (tied). -/
import Derived.Test.YtnacokogihanoaaDoorRBase
import Derived.Test.YtnacokogihanoaaDoorRRB
namespace Go.Proofs.YtnacokogihanoaaDoor.ratTells
open Go.ChangeShapes Go.WideShapes Go.ChangeAt Go.RowKit
open Go.Proofs.YtnacokogihanoaaDoor
set_option linter.unusedVariables false
set_option linter.unusedSimpArgs false

set_option maxHeartbeats 8000000 in
set_option maxRecDepth 100000 in
theorem long1 {A A' D D' : Option Addr} {n c n' c' m k m' k' : Nat} {xs ys us vs : List Nat} {w : World} (h0 : Lim w A n c xs) (h0' : Lim w A' n' c' ys) (h1 : Lim w D m k us) (h1' : Lim w D' m' k' vs) (s : ¬ (n ≤ 70 ∧ n' ≤ 70)) : Calls Tryd.prog 5 #[.agg #[.slice A n c, .slice A' n' c'], .agg #[.slice D m k, .slice D' m' k']] w fun e w' => e = .returned (.bool true) ∧ Below w.heap.size w w' := by
  have S := (((((Fs.start w).put h0).put h0').put h1).put h1') |>.box (.slice A n c) (.slice A' n' c') |>.box (.slice D m k) (.slice D' m' k')
  simp only [World.size_alloc] at S
  clear h0 h0' h1 h1'
  go_enter Tryd.func5, Tryd.ntmps5
  go_upto_region 1 with fail
  generalize (w.alloc (.cells #[.slice A n c, .slice A' n' c'] 50)).alloc (.cells #[.slice D m k, .slice D' m' k'] 50) = w0 at *
  obtain ⟨⟨x10, x11, -⟩, ⟨x00, x01, -⟩, -⟩ := S.cel
  go_wp2_with fail
  refine (small3_no _ _ _ _ _ _ _ s).mono ?_
  clear x10 x11 x00 x01
  rintro e y1 ⟨rfl, B1⟩
  have S := S.next B1
  clear B1
  obtain ⟨⟨x10, x11, -⟩, ⟨x00, x01, -⟩, -⟩ := S.cel
  go_wp2_with fail
  refine (awake3 _).mono ?_
  rintro e y2 ⟨rfl, B1⟩
  have S := S.next B1
  clear B1
  go_wp2_with fail
  go_ret
  exact ⟨rfl, S.bl⟩
set_option maxHeartbeats 8000000 in
set_option maxRecDepth 100000 in
theorem long2 {A A' D D' : Option Addr} {n c n' c' m k m' k' : Nat} {xs ys us vs : List Nat} {w : World} (h0 : Lim w A n c xs) (h0' : Lim w A' n' c' ys) (h1 : Lim w D m k us) (h1' : Lim w D' m' k' vs) (sa : n ≤ 70) (sa' : n' ≤ 70) (s : ¬ (m ≤ 70 ∧ m' ≤ 70)) : Calls Tryd.prog 5 #[.agg #[.slice A n c, .slice A' n' c'], .agg #[.slice D m k, .slice D' m' k']] w fun e w' => e = .returned (.bool true) ∧ Below w.heap.size w w' := by
  have S := (((((Fs.start w).put h0).put h0').put h1).put h1') |>.box (.slice A n c) (.slice A' n' c') |>.box (.slice D m k) (.slice D' m' k')
  simp only [World.size_alloc] at S
  clear h0 h0' h1 h1'
  go_enter Tryd.func5, Tryd.ntmps5
  go_upto_region 1 with fail
  generalize (w.alloc (.cells #[.slice A n c, .slice A' n' c'] 50)).alloc (.cells #[.slice D m k, .slice D' m' k'] 50) = w0 at *
  obtain ⟨⟨x10, x11, -⟩, ⟨x00, x01, -⟩, -⟩ := S.cel
  go_wp2_with fail
  refine (small3_yes _ _ _ _ _ _ _ sa sa').mono ?_
  clear x10 x11 x00 x01
  rintro e y1 ⟨rfl, B1⟩
  have S := S.next B1
  clear B1
  obtain ⟨⟨x10, x11, -⟩, ⟨x00, x01, -⟩, -⟩ := S.cel
  go_wp2_with fail
  refine (small3_no _ _ _ _ _ _ _ s).mono ?_
  clear x10 x11 x00 x01
  rintro e y2 ⟨rfl, B1⟩
  have S := S.next B1
  clear B1
  obtain ⟨⟨x10, x11, -⟩, ⟨x00, x01, -⟩, -⟩ := S.cel
  go_wp2_with fail
  refine (awake3 _).mono ?_
  rintro e y3 ⟨rfl, B1⟩
  have S := S.next B1
  clear B1
  go_wp2_with fail
  go_ret
  exact ⟨rfl, S.bl⟩
set_option maxHeartbeats 8000000 in
set_option maxRecDepth 100000 in
theorem no00 {A A' D D' : Option Addr} {n c n' c' m k m' k' : Nat} {xs ys us vs : List Nat} {w : World} (h0 : Lim w A n c xs) (h0' : Lim w A' n' c' ys) (h1 : Lim w D m k us) (h1' : Lim w D' m' k' vs) (sa : n ≤ 70) (sa' : n' ≤ 70) (sb : m ≤ 70) (sb' : m' ≤ 70) (fa : ¬ Fr xs ys) (fb : ¬ Fr us vs) : Calls Tryd.prog 5 #[.agg #[.slice A n c, .slice A' n' c'], .agg #[.slice D m k, .slice D' m' k']] w fun e w' => e = .returned (.bool true) ∧ Below w.heap.size w w' := by
  have FA := Lib.hid (frB_no fa); have FB := Lib.hid (frB_no fb)
  have NF : Hid (¬ (Fr xs ys ∧ Fr us vs)) := fun z => fa z.1
  have FN := Lib.hid fa
  clear fa fb
  have SA := Lib.hid sa; have SB := Lib.hid sb; have SA' := Lib.hid sa'; have SB' := Lib.hid sb'
  clear sa sb sa' sb'
  have S := (((((Fs.start w).put h0).put h0').put h1).put h1') |>.box (.slice A n c) (.slice A' n' c') |>.box (.slice D m k) (.slice D' m' k')
  simp only [World.size_alloc] at S
  clear h0 h0' h1 h1'
  go_enter Tryd.func5, Tryd.ntmps5
  go_upto_region 1 with fail
  generalize (w.alloc (.cells #[.slice A n c, .slice A' n' c'] 50)).alloc (.cells #[.slice D m k, .slice D' m' k'] 50) = w0 at *
  obtain ⟨⟨x10, x11, -⟩, ⟨x00, x01, -⟩, -⟩ := S.cel
  go_wp2_with fail
  refine (small3_yes _ _ _ _ _ _ _ SA.out SA'.out).mono ?_
  clear x10 x11 x00 x01
  rintro e y1 ⟨rfl, B1⟩
  have S := S.next B1
  clear B1
  obtain ⟨⟨x10, x11, -⟩, ⟨x00, x01, -⟩, -⟩ := S.cel
  go_wp2_with fail
  refine (small3_yes _ _ _ _ _ _ _ SB.out SB'.out).mono ?_
  clear x10 x11 x00 x01
  rintro e y2 ⟨rfl, B1⟩
  have S := S.next B1
  clear B1
  obtain ⟨⟨x10, x11, -⟩, ⟨x00, x01, -⟩, -⟩ := S.cel
  go_upto_region 3 with fail
  have KA : Hid (∀ W, Below y2.heap.size y2 W → Calls Tryd.prog 35 #[.agg #[.slice A n c, .slice A' n' c']] W fun e w' => e = .returned (.bool false) ∧ Below W.heap.size W w') := fun W h => FA.out ▸ right3_any (S.lie.2.2.2.1.next h) (S.lie.2.2.1.next h)
  have KB : Hid (∀ W, Below y2.heap.size y2 W → Calls Tryd.prog 35 #[.agg #[.slice D m k, .slice D' m' k']] W fun e w' => e = .returned (.bool false) ∧ Below W.heap.size W w') := fun W h => FB.out ▸ right3_any (S.lie.2.1.next h) (S.lie.1.next h)
  have CC : Hid (∀ W, Below y2.heap.size y2 W → W.cell? ⟨w.heap.size, 0, none⟩ = some (.slice A n c) ∧ W.cell? ⟨w.heap.size, 1, none⟩ = some (.slice A' n' c') ∧ W.cell? ⟨w.heap.size + 1, 0, none⟩ = some (.slice D m k) ∧ W.cell? ⟨w.heap.size + 1, 1, none⟩ = some (.slice D' m' k')) := fun W h => ⟨keep_cell h x00, keep_cell h x01, keep_cell h x10, keep_cell h x11⟩
  have SS := Lib.hid S
  clear x10 x11 x00 x01
  clear S
  go_region_held3 (fun w' => w'.cell? ⟨w.heap.size, 0, none⟩ = some (.slice A n c) ∧ w'.cell? ⟨w.heap.size, 1, none⟩ = some (.slice A' n' c') ∧ w'.cell? ⟨w.heap.size + 1, 0, none⟩ = some (.slice D m k) ∧ w'.cell? ⟨w.heap.size + 1, 1, none⟩ = some (.slice D' m' k'))
    ((refine CC.out _ ?_; repeat (first | with_reducible exact Below.refl _ _ | with_reducible exact (Below.refl _ _).drew | refine below_step ?_ (by assumption))))
    (first
      | (go_at_call 35; (with_reducible refine (KA.out _ ?_).mono ?_); (· repeat (first | with_reducible exact Below.refl _ _ | with_reducible exact (Below.refl _ _).drew | refine below_step ?_ (by assumption))); rintro e r1 ⟨rfl, C1⟩)
      | (go_at_call 35; (with_reducible refine (KB.out _ ?_).mono ?_); (· repeat (first | with_reducible exact Below.refl _ _ | with_reducible exact (Below.refl _ _).drew | refine below_step ?_ (by assumption))); rintro e r2 ⟨rfl, C2⟩))
  have S := (SS.out.drew.next C1).next C2
  clear C1 C2 CC SS KA KB
  obtain ⟨⟨x10, x11, -⟩, ⟨x00, x01, -⟩, -⟩ := S.cel
  go_wp2_with fail
  have K := ratRight_any S.lie.2.2.2.1 S.lie.2.2.1
  rw [FA.out] at K
  refine K.mono ?_
  clear K
  clear x10 x11 x00 x01
  rintro e y3 ⟨rfl, B1⟩
  have S := S.next B1
  clear B1
  obtain ⟨⟨x10, x11, -⟩, ⟨x00, x01, -⟩, -⟩ := S.cel
  go_wp2_with fail
  have K := ratRight_any S.lie.2.1 S.lie.1
  rw [FB.out] at K
  refine K.mono ?_
  clear K
  clear x10 x11 x00 x01
  rintro e y4 ⟨rfl, B1⟩
  have S := S.next B1
  clear B1
  obtain ⟨⟨x10, x11, -⟩, ⟨x00, x01, -⟩, -⟩ := S.cel
  go_wp2_with fail
  refine (ratAdd_bad S.lie.2.2.2.1 S.lie.2.2.1 S.lie.2.1 S.lie.1 NF.out).mono ?_
  clear x10 x11 x00 x01
  rintro e y5 ⟨JA5, jn5, jc5, JB5, jm5, jk5, rfl, M1, M2, B1⟩
  have S := ((S.next B1).put M1).put M2
  clear M1 M2 B1
  have S := S.box (.slice JA5 jn5 jc5) (.slice JB5 jm5 jk5)
  generalize hv5 : y5.alloc (.cells #[.slice JA5 jn5 jc5, .slice JB5 jm5 jk5] 50) = v5 at *
  obtain ⟨⟨s0, s1, -⟩, ⟨x10, x11, -⟩, ⟨x00, x01, -⟩, -⟩ := S.cel
  go_wp2_with fail
  clear hv5
  generalize y5.heap.size = z5 at *
  refine (ratSub_bad S.lie.2.2.2.2.2.1 S.lie.2.2.2.2.1 S.lie.2.2.2.1 S.lie.2.2.1 NF.out).mono ?_
  clear s0 s1 x10 x11 x00 x01
  rintro e y6 ⟨JA6, jn6, jc6, JB6, jm6, jk6, rfl, M1, M2, B1⟩
  have S := ((S.next B1).put M1).put M2
  clear M1 M2 B1
  have S := S.box (.slice JA6 jn6 jc6) (.slice JB6 jm6 jk6)
  generalize hv6 : y6.alloc (.cells #[.slice JA6 jn6 jc6, .slice JB6 jm6 jk6] 50) = v6 at *
  obtain ⟨⟨d0, d1, -⟩, ⟨s0, s1, -⟩, ⟨x10, x11, -⟩, ⟨x00, x01, -⟩, -⟩ := S.cel
  go_wp2_with fail
  clear hv6
  generalize y6.heap.size = z6 at *
  refine (ratMul_bad S.lie.2.2.2.2.2.2.2.1 S.lie.2.2.2.2.2.2.1 S.lie.2.2.2.2.2.1 S.lie.2.2.2.2.1 NF.out).mono ?_
  clear d0 d1 s0 s1 x10 x11 x00 x01
  rintro e y7 ⟨JA7, jn7, jc7, JB7, jm7, jk7, rfl, M1, M2, B1⟩
  have S := ((S.next B1).put M1).put M2
  clear M1 M2 B1
  have S := S.box (.slice JA7 jn7 jc7) (.slice JB7 jm7 jk7)
  generalize hv7 : y7.alloc (.cells #[.slice JA7 jn7 jc7, .slice JB7 jm7 jk7] 50) = v7 at *
  obtain ⟨⟨m0, m1, -⟩, ⟨d0, d1, -⟩, ⟨s0, s1, -⟩, ⟨x10, x11, -⟩, ⟨x00, x01, -⟩, -⟩ := S.cel
  go_wp2_with fail
  clear hv7
  generalize y7.heap.size = z7 at *
  refine (ratDiv_bad S.lie.2.2.2.2.2.2.2.2.2.1 S.lie.2.2.2.2.2.2.2.2.1 S.lie.2.2.2.2.2.2.2.1 S.lie.2.2.2.2.2.2.1 NF.out).mono ?_
  clear m0 m1 d0 d1 s0 s1 x10 x11 x00 x01
  rintro e y8 ⟨JA8, jn8, jc8, JB8, jm8, jk8, rfl, M1, M2, B1⟩
  have S := ((S.next B1).put M1).put M2
  clear M1 M2 B1
  have S := S.box (.slice JA8 jn8 jc8) (.slice JB8 jm8 jk8)
  generalize hv8 : y8.alloc (.cells #[.slice JA8 jn8 jc8, .slice JB8 jm8 jk8] 50) = v8 at *
  obtain ⟨⟨q0, q1, -⟩, ⟨m0, m1, -⟩, ⟨d0, d1, -⟩, ⟨s0, s1, -⟩, ⟨x10, x11, -⟩, ⟨x00, x01, -⟩, -⟩ := S.cel
  go_wp2_with fail
  clear hv8
  generalize y8.heap.size = z8 at *
  refine (ratCmp_bad S.lie.2.2.2.2.2.2.2.2.2.2.2.1 S.lie.2.2.2.2.2.2.2.2.2.2.1 S.lie.2.2.2.2.2.2.2.2.2.1 S.lie.2.2.2.2.2.2.2.2.1 NF.out).mono ?_
  clear q0 q1 m0 m1 d0 d1 s0 s1 x10 x11 x00 x01
  rintro e y9 ⟨rfl, B1⟩
  have S := S.next B1
  clear B1
  go_upto_region 13 with fail
  have S := S.box (.slice none 0 0) (.slice none 0 0)
  generalize y9.alloc (.cells #[.slice none 0 0, .slice none 0 0] 50) = v9 at *
  generalize y9.heap.size = z9 at *
  obtain ⟨⟨o0, o1, -⟩, ⟨q0, q1, -⟩, ⟨m0, m1, -⟩, ⟨d0, d1, -⟩, ⟨s0, s1, -⟩, ⟨x10, x11, -⟩, ⟨x00, x01, -⟩, -⟩ := S.cel
  go_wp2_with fail
  refine (told3_any S.lie.2.2.2.2.2.2.2.1 S.lie.2.2.2.2.2.2.1 (lim_z _) (lim_z _)).mono ?_
  clear o0 o1 q0 q1 m0 m1 d0 d1 s0 s1 x10 x11 x00 x01
  rintro e y10 ⟨rfl, B1⟩
  have S := S.next B1
  clear B1
  obtain ⟨⟨o0, o1, -⟩, ⟨q0, q1, -⟩, ⟨m0, m1, -⟩, ⟨d0, d1, -⟩, ⟨s0, s1, -⟩, ⟨x10, x11, -⟩, ⟨x00, x01, -⟩, -⟩ := S.cel
  go_wp2_with fail
  refine (told3_any S.lie.2.2.2.2.2.1 S.lie.2.2.2.2.1 (lim_z _) (lim_z _)).mono ?_
  clear o0 o1 q0 q1 m0 m1 d0 d1 s0 s1 x10 x11 x00 x01
  rintro e y11 ⟨rfl, B1⟩
  have S := S.next B1
  clear B1
  obtain ⟨⟨o0, o1, -⟩, ⟨q0, q1, -⟩, ⟨m0, m1, -⟩, ⟨d0, d1, -⟩, ⟨s0, s1, -⟩, ⟨x10, x11, -⟩, ⟨x00, x01, -⟩, -⟩ := S.cel
  go_wp2_with fail
  refine (told3_any S.lie.2.2.2.1 S.lie.2.2.1 (lim_z _) (lim_z _)).mono ?_
  clear o0 o1 q0 q1 m0 m1 d0 d1 s0 s1 x10 x11 x00 x01
  rintro e y12 ⟨rfl, B1⟩
  have S := S.next B1
  clear B1
  obtain ⟨⟨o0, o1, -⟩, ⟨q0, q1, -⟩, ⟨m0, m1, -⟩, ⟨d0, d1, -⟩, ⟨s0, s1, -⟩, ⟨x10, x11, -⟩, ⟨x00, x01, -⟩, -⟩ := S.cel
  go_wp2_with fail
  refine (told3_any S.lie.2.1 S.lie.1 (lim_z _) (lim_z _)).mono ?_
  clear o0 o1 q0 q1 m0 m1 d0 d1 s0 s1 x10 x11 x00 x01
  rintro e y13 ⟨rfl, B1⟩
  have S := S.next B1
  clear B1
  obtain ⟨⟨o0, o1, -⟩, ⟨q0, q1, -⟩, ⟨m0, m1, -⟩, ⟨d0, d1, -⟩, ⟨s0, s1, -⟩, ⟨x10, x11, -⟩, ⟨x00, x01, -⟩, -⟩ := S.cel
  go_wp2_with fail
  refine (ratText_no S.lie.2.2.2.2.2.2.2.2.2.2.2.1 S.lie.2.2.2.2.2.2.2.2.2.2.1 FN.out).mono ?_
  clear o0 o1 q0 q1 m0 m1 d0 d1 s0 s1 x10 x11 x00 x01
  rintro e y14 ⟨rfl, B1⟩
  have S := S.next B1
  clear B1
  obtain ⟨⟨o0, o1, -⟩, ⟨q0, q1, -⟩, ⟨m0, m1, -⟩, ⟨d0, d1, -⟩, ⟨s0, s1, -⟩, ⟨x10, x11, -⟩, ⟨x00, x01, -⟩, -⟩ := S.cel
  go_wp2_with fail
  refine (awake3 _).mono ?_
  rintro e y15 ⟨rfl, B1⟩
  have S := S.next B1
  clear B1
  go_wp2_with fail
  go_ret
  exact ⟨rfl, S.bl⟩
set_option maxHeartbeats 8000000 in
set_option maxRecDepth 100000 in
theorem no01 {A A' D D' : Option Addr} {n c n' c' m k m' k' : Nat} {xs ys us vs : List Nat} {w : World} (h0 : Lim w A n c xs) (h0' : Lim w A' n' c' ys) (h1 : Lim w D m k us) (h1' : Lim w D' m' k' vs) (sa : n ≤ 70) (sa' : n' ≤ 70) (sb : m ≤ 70) (sb' : m' ≤ 70) (fa : ¬ Fr xs ys) (fb : Fr us vs) : Calls Tryd.prog 5 #[.agg #[.slice A n c, .slice A' n' c'], .agg #[.slice D m k, .slice D' m' k']] w fun e w' => e = .returned (.bool true) ∧ Below w.heap.size w w' := by
  have FA := Lib.hid (frB_no fa); have FB := Lib.hid (frB_yes fb)
  have NF : Hid (¬ (Fr xs ys ∧ Fr us vs)) := fun z => fa z.1
  have FN := Lib.hid fa
  clear fa fb
  have SA := Lib.hid sa; have SB := Lib.hid sb; have SA' := Lib.hid sa'; have SB' := Lib.hid sb'
  clear sa sb sa' sb'
  have S := (((((Fs.start w).put h0).put h0').put h1).put h1') |>.box (.slice A n c) (.slice A' n' c') |>.box (.slice D m k) (.slice D' m' k')
  simp only [World.size_alloc] at S
  clear h0 h0' h1 h1'
  go_enter Tryd.func5, Tryd.ntmps5
  go_upto_region 1 with fail
  generalize (w.alloc (.cells #[.slice A n c, .slice A' n' c'] 50)).alloc (.cells #[.slice D m k, .slice D' m' k'] 50) = w0 at *
  obtain ⟨⟨x10, x11, -⟩, ⟨x00, x01, -⟩, -⟩ := S.cel
  go_wp2_with fail
  refine (small3_yes _ _ _ _ _ _ _ SA.out SA'.out).mono ?_
  clear x10 x11 x00 x01
  rintro e y1 ⟨rfl, B1⟩
  have S := S.next B1
  clear B1
  obtain ⟨⟨x10, x11, -⟩, ⟨x00, x01, -⟩, -⟩ := S.cel
  go_wp2_with fail
  refine (small3_yes _ _ _ _ _ _ _ SB.out SB'.out).mono ?_
  clear x10 x11 x00 x01
  rintro e y2 ⟨rfl, B1⟩
  have S := S.next B1
  clear B1
  obtain ⟨⟨x10, x11, -⟩, ⟨x00, x01, -⟩, -⟩ := S.cel
  go_upto_region 3 with fail
  have KA : Hid (∀ W, Below y2.heap.size y2 W → Calls Tryd.prog 35 #[.agg #[.slice A n c, .slice A' n' c']] W fun e w' => e = .returned (.bool false) ∧ Below W.heap.size W w') := fun W h => FA.out ▸ right3_any (S.lie.2.2.2.1.next h) (S.lie.2.2.1.next h)
  have KB : Hid (∀ W, Below y2.heap.size y2 W → Calls Tryd.prog 35 #[.agg #[.slice D m k, .slice D' m' k']] W fun e w' => e = .returned (.bool true) ∧ Below W.heap.size W w') := fun W h => FB.out ▸ right3_any (S.lie.2.1.next h) (S.lie.1.next h)
  have CC : Hid (∀ W, Below y2.heap.size y2 W → W.cell? ⟨w.heap.size, 0, none⟩ = some (.slice A n c) ∧ W.cell? ⟨w.heap.size, 1, none⟩ = some (.slice A' n' c') ∧ W.cell? ⟨w.heap.size + 1, 0, none⟩ = some (.slice D m k) ∧ W.cell? ⟨w.heap.size + 1, 1, none⟩ = some (.slice D' m' k')) := fun W h => ⟨keep_cell h x00, keep_cell h x01, keep_cell h x10, keep_cell h x11⟩
  have SS := Lib.hid S
  clear x10 x11 x00 x01
  clear S
  go_region_held3 (fun w' => w'.cell? ⟨w.heap.size, 0, none⟩ = some (.slice A n c) ∧ w'.cell? ⟨w.heap.size, 1, none⟩ = some (.slice A' n' c') ∧ w'.cell? ⟨w.heap.size + 1, 0, none⟩ = some (.slice D m k) ∧ w'.cell? ⟨w.heap.size + 1, 1, none⟩ = some (.slice D' m' k'))
    ((refine CC.out _ ?_; repeat (first | with_reducible exact Below.refl _ _ | with_reducible exact (Below.refl _ _).drew | refine below_step ?_ (by assumption))))
    (first
      | (go_at_call 35; (with_reducible refine (KA.out _ ?_).mono ?_); (· repeat (first | with_reducible exact Below.refl _ _ | with_reducible exact (Below.refl _ _).drew | refine below_step ?_ (by assumption))); rintro e r1 ⟨rfl, C1⟩)
      | (go_at_call 35; (with_reducible refine (KB.out _ ?_).mono ?_); (· repeat (first | with_reducible exact Below.refl _ _ | with_reducible exact (Below.refl _ _).drew | refine below_step ?_ (by assumption))); rintro e r2 ⟨rfl, C2⟩))
  have S := (SS.out.drew.next C1).next C2
  clear C1 C2 CC SS KA KB
  obtain ⟨⟨x10, x11, -⟩, ⟨x00, x01, -⟩, -⟩ := S.cel
  go_wp2_with fail
  have K := ratRight_any S.lie.2.2.2.1 S.lie.2.2.1
  rw [FA.out] at K
  refine K.mono ?_
  clear K
  clear x10 x11 x00 x01
  rintro e y3 ⟨rfl, B1⟩
  have S := S.next B1
  clear B1
  obtain ⟨⟨x10, x11, -⟩, ⟨x00, x01, -⟩, -⟩ := S.cel
  go_wp2_with fail
  have K := ratRight_any S.lie.2.1 S.lie.1
  rw [FB.out] at K
  refine K.mono ?_
  clear K
  clear x10 x11 x00 x01
  rintro e y4 ⟨rfl, B1⟩
  have S := S.next B1
  clear B1
  obtain ⟨⟨x10, x11, -⟩, ⟨x00, x01, -⟩, -⟩ := S.cel
  go_wp2_with fail
  refine (ratAdd_bad S.lie.2.2.2.1 S.lie.2.2.1 S.lie.2.1 S.lie.1 NF.out).mono ?_
  clear x10 x11 x00 x01
  rintro e y5 ⟨JA5, jn5, jc5, JB5, jm5, jk5, rfl, M1, M2, B1⟩
  have S := ((S.next B1).put M1).put M2
  clear M1 M2 B1
  have S := S.box (.slice JA5 jn5 jc5) (.slice JB5 jm5 jk5)
  generalize hv5 : y5.alloc (.cells #[.slice JA5 jn5 jc5, .slice JB5 jm5 jk5] 50) = v5 at *
  obtain ⟨⟨s0, s1, -⟩, ⟨x10, x11, -⟩, ⟨x00, x01, -⟩, -⟩ := S.cel
  go_wp2_with fail
  clear hv5
  generalize y5.heap.size = z5 at *
  refine (ratSub_bad S.lie.2.2.2.2.2.1 S.lie.2.2.2.2.1 S.lie.2.2.2.1 S.lie.2.2.1 NF.out).mono ?_
  clear s0 s1 x10 x11 x00 x01
  rintro e y6 ⟨JA6, jn6, jc6, JB6, jm6, jk6, rfl, M1, M2, B1⟩
  have S := ((S.next B1).put M1).put M2
  clear M1 M2 B1
  have S := S.box (.slice JA6 jn6 jc6) (.slice JB6 jm6 jk6)
  generalize hv6 : y6.alloc (.cells #[.slice JA6 jn6 jc6, .slice JB6 jm6 jk6] 50) = v6 at *
  obtain ⟨⟨d0, d1, -⟩, ⟨s0, s1, -⟩, ⟨x10, x11, -⟩, ⟨x00, x01, -⟩, -⟩ := S.cel
  go_wp2_with fail
  clear hv6
  generalize y6.heap.size = z6 at *
  refine (ratMul_bad S.lie.2.2.2.2.2.2.2.1 S.lie.2.2.2.2.2.2.1 S.lie.2.2.2.2.2.1 S.lie.2.2.2.2.1 NF.out).mono ?_
  clear d0 d1 s0 s1 x10 x11 x00 x01
  rintro e y7 ⟨JA7, jn7, jc7, JB7, jm7, jk7, rfl, M1, M2, B1⟩
  have S := ((S.next B1).put M1).put M2
  clear M1 M2 B1
  have S := S.box (.slice JA7 jn7 jc7) (.slice JB7 jm7 jk7)
  generalize hv7 : y7.alloc (.cells #[.slice JA7 jn7 jc7, .slice JB7 jm7 jk7] 50) = v7 at *
  obtain ⟨⟨m0, m1, -⟩, ⟨d0, d1, -⟩, ⟨s0, s1, -⟩, ⟨x10, x11, -⟩, ⟨x00, x01, -⟩, -⟩ := S.cel
  go_wp2_with fail
  clear hv7
  generalize y7.heap.size = z7 at *
  refine (ratDiv_bad S.lie.2.2.2.2.2.2.2.2.2.1 S.lie.2.2.2.2.2.2.2.2.1 S.lie.2.2.2.2.2.2.2.1 S.lie.2.2.2.2.2.2.1 NF.out).mono ?_
  clear m0 m1 d0 d1 s0 s1 x10 x11 x00 x01
  rintro e y8 ⟨JA8, jn8, jc8, JB8, jm8, jk8, rfl, M1, M2, B1⟩
  have S := ((S.next B1).put M1).put M2
  clear M1 M2 B1
  have S := S.box (.slice JA8 jn8 jc8) (.slice JB8 jm8 jk8)
  generalize hv8 : y8.alloc (.cells #[.slice JA8 jn8 jc8, .slice JB8 jm8 jk8] 50) = v8 at *
  obtain ⟨⟨q0, q1, -⟩, ⟨m0, m1, -⟩, ⟨d0, d1, -⟩, ⟨s0, s1, -⟩, ⟨x10, x11, -⟩, ⟨x00, x01, -⟩, -⟩ := S.cel
  go_wp2_with fail
  clear hv8
  generalize y8.heap.size = z8 at *
  refine (ratCmp_bad S.lie.2.2.2.2.2.2.2.2.2.2.2.1 S.lie.2.2.2.2.2.2.2.2.2.2.1 S.lie.2.2.2.2.2.2.2.2.2.1 S.lie.2.2.2.2.2.2.2.2.1 NF.out).mono ?_
  clear q0 q1 m0 m1 d0 d1 s0 s1 x10 x11 x00 x01
  rintro e y9 ⟨rfl, B1⟩
  have S := S.next B1
  clear B1
  go_upto_region 13 with fail
  have S := S.box (.slice none 0 0) (.slice none 0 0)
  generalize y9.alloc (.cells #[.slice none 0 0, .slice none 0 0] 50) = v9 at *
  generalize y9.heap.size = z9 at *
  obtain ⟨⟨o0, o1, -⟩, ⟨q0, q1, -⟩, ⟨m0, m1, -⟩, ⟨d0, d1, -⟩, ⟨s0, s1, -⟩, ⟨x10, x11, -⟩, ⟨x00, x01, -⟩, -⟩ := S.cel
  go_wp2_with fail
  refine (told3_any S.lie.2.2.2.2.2.2.2.1 S.lie.2.2.2.2.2.2.1 (lim_z _) (lim_z _)).mono ?_
  clear o0 o1 q0 q1 m0 m1 d0 d1 s0 s1 x10 x11 x00 x01
  rintro e y10 ⟨rfl, B1⟩
  have S := S.next B1
  clear B1
  obtain ⟨⟨o0, o1, -⟩, ⟨q0, q1, -⟩, ⟨m0, m1, -⟩, ⟨d0, d1, -⟩, ⟨s0, s1, -⟩, ⟨x10, x11, -⟩, ⟨x00, x01, -⟩, -⟩ := S.cel
  go_wp2_with fail
  refine (told3_any S.lie.2.2.2.2.2.1 S.lie.2.2.2.2.1 (lim_z _) (lim_z _)).mono ?_
  clear o0 o1 q0 q1 m0 m1 d0 d1 s0 s1 x10 x11 x00 x01
  rintro e y11 ⟨rfl, B1⟩
  have S := S.next B1
  clear B1
  obtain ⟨⟨o0, o1, -⟩, ⟨q0, q1, -⟩, ⟨m0, m1, -⟩, ⟨d0, d1, -⟩, ⟨s0, s1, -⟩, ⟨x10, x11, -⟩, ⟨x00, x01, -⟩, -⟩ := S.cel
  go_wp2_with fail
  refine (told3_any S.lie.2.2.2.1 S.lie.2.2.1 (lim_z _) (lim_z _)).mono ?_
  clear o0 o1 q0 q1 m0 m1 d0 d1 s0 s1 x10 x11 x00 x01
  rintro e y12 ⟨rfl, B1⟩
  have S := S.next B1
  clear B1
  obtain ⟨⟨o0, o1, -⟩, ⟨q0, q1, -⟩, ⟨m0, m1, -⟩, ⟨d0, d1, -⟩, ⟨s0, s1, -⟩, ⟨x10, x11, -⟩, ⟨x00, x01, -⟩, -⟩ := S.cel
  go_wp2_with fail
  refine (told3_any S.lie.2.1 S.lie.1 (lim_z _) (lim_z _)).mono ?_
  clear o0 o1 q0 q1 m0 m1 d0 d1 s0 s1 x10 x11 x00 x01
  rintro e y13 ⟨rfl, B1⟩
  have S := S.next B1
  clear B1
  obtain ⟨⟨o0, o1, -⟩, ⟨q0, q1, -⟩, ⟨m0, m1, -⟩, ⟨d0, d1, -⟩, ⟨s0, s1, -⟩, ⟨x10, x11, -⟩, ⟨x00, x01, -⟩, -⟩ := S.cel
  go_wp2_with fail
  refine (ratText_no S.lie.2.2.2.2.2.2.2.2.2.2.2.1 S.lie.2.2.2.2.2.2.2.2.2.2.1 FN.out).mono ?_
  clear o0 o1 q0 q1 m0 m1 d0 d1 s0 s1 x10 x11 x00 x01
  rintro e y14 ⟨rfl, B1⟩
  have S := S.next B1
  clear B1
  obtain ⟨⟨o0, o1, -⟩, ⟨q0, q1, -⟩, ⟨m0, m1, -⟩, ⟨d0, d1, -⟩, ⟨s0, s1, -⟩, ⟨x10, x11, -⟩, ⟨x00, x01, -⟩, -⟩ := S.cel
  go_wp2_with fail
  refine (awake3 _).mono ?_
  rintro e y15 ⟨rfl, B1⟩
  have S := S.next B1
  clear B1
  go_wp2_with fail
  go_ret
  exact ⟨rfl, S.bl⟩
set_option maxHeartbeats 8000000 in
set_option maxRecDepth 100000 in
theorem no10 {A A' D D' : Option Addr} {n c n' c' m k m' k' : Nat} {xs ys us vs : List Nat} {w : World} (h0 : Lim w A n c xs) (h0' : Lim w A' n' c' ys) (h1 : Lim w D m k us) (h1' : Lim w D' m' k' vs) (sa : n ≤ 70) (sa' : n' ≤ 70) (sb : m ≤ 70) (sb' : m' ≤ 70) (fa : Fr xs ys) (fb : ¬ Fr us vs) : Calls Tryd.prog 5 #[.agg #[.slice A n c, .slice A' n' c'], .agg #[.slice D m k, .slice D' m' k']] w fun e w' => e = .returned (.bool true) ∧ Below w.heap.size w w' := by
  have FA := Lib.hid (frB_yes fa); have FB := Lib.hid (frB_no fb)
  have NF : Hid (¬ (Fr xs ys ∧ Fr us vs)) := fun z => fb z.2
  clear fa fb
  have SA := Lib.hid sa; have SB := Lib.hid sb; have SA' := Lib.hid sa'; have SB' := Lib.hid sb'
  clear sa sb sa' sb'
  have S := (((((Fs.start w).put h0).put h0').put h1).put h1') |>.box (.slice A n c) (.slice A' n' c') |>.box (.slice D m k) (.slice D' m' k')
  simp only [World.size_alloc] at S
  clear h0 h0' h1 h1'
  go_enter Tryd.func5, Tryd.ntmps5
  go_upto_region 1 with fail
  generalize (w.alloc (.cells #[.slice A n c, .slice A' n' c'] 50)).alloc (.cells #[.slice D m k, .slice D' m' k'] 50) = w0 at *
  obtain ⟨⟨x10, x11, -⟩, ⟨x00, x01, -⟩, -⟩ := S.cel
  go_wp2_with fail
  refine (small3_yes _ _ _ _ _ _ _ SA.out SA'.out).mono ?_
  clear x10 x11 x00 x01
  rintro e y1 ⟨rfl, B1⟩
  have S := S.next B1
  clear B1
  obtain ⟨⟨x10, x11, -⟩, ⟨x00, x01, -⟩, -⟩ := S.cel
  go_wp2_with fail
  refine (small3_yes _ _ _ _ _ _ _ SB.out SB'.out).mono ?_
  clear x10 x11 x00 x01
  rintro e y2 ⟨rfl, B1⟩
  have S := S.next B1
  clear B1
  obtain ⟨⟨x10, x11, -⟩, ⟨x00, x01, -⟩, -⟩ := S.cel
  go_upto_region 3 with fail
  have KA : Hid (∀ W, Below y2.heap.size y2 W → Calls Tryd.prog 35 #[.agg #[.slice A n c, .slice A' n' c']] W fun e w' => e = .returned (.bool true) ∧ Below W.heap.size W w') := fun W h => FA.out ▸ right3_any (S.lie.2.2.2.1.next h) (S.lie.2.2.1.next h)
  have KB : Hid (∀ W, Below y2.heap.size y2 W → Calls Tryd.prog 35 #[.agg #[.slice D m k, .slice D' m' k']] W fun e w' => e = .returned (.bool false) ∧ Below W.heap.size W w') := fun W h => FB.out ▸ right3_any (S.lie.2.1.next h) (S.lie.1.next h)
  have CC : Hid (∀ W, Below y2.heap.size y2 W → W.cell? ⟨w.heap.size, 0, none⟩ = some (.slice A n c) ∧ W.cell? ⟨w.heap.size, 1, none⟩ = some (.slice A' n' c') ∧ W.cell? ⟨w.heap.size + 1, 0, none⟩ = some (.slice D m k) ∧ W.cell? ⟨w.heap.size + 1, 1, none⟩ = some (.slice D' m' k')) := fun W h => ⟨keep_cell h x00, keep_cell h x01, keep_cell h x10, keep_cell h x11⟩
  have SS := Lib.hid S
  clear x10 x11 x00 x01
  clear S
  go_region_held3 (fun w' => w'.cell? ⟨w.heap.size, 0, none⟩ = some (.slice A n c) ∧ w'.cell? ⟨w.heap.size, 1, none⟩ = some (.slice A' n' c') ∧ w'.cell? ⟨w.heap.size + 1, 0, none⟩ = some (.slice D m k) ∧ w'.cell? ⟨w.heap.size + 1, 1, none⟩ = some (.slice D' m' k'))
    ((refine CC.out _ ?_; repeat (first | with_reducible exact Below.refl _ _ | with_reducible exact (Below.refl _ _).drew | refine below_step ?_ (by assumption))))
    (first
      | (go_at_call 35; (with_reducible refine (KA.out _ ?_).mono ?_); (· repeat (first | with_reducible exact Below.refl _ _ | with_reducible exact (Below.refl _ _).drew | refine below_step ?_ (by assumption))); rintro e r1 ⟨rfl, C1⟩)
      | (go_at_call 35; (with_reducible refine (KB.out _ ?_).mono ?_); (· repeat (first | with_reducible exact Below.refl _ _ | with_reducible exact (Below.refl _ _).drew | refine below_step ?_ (by assumption))); rintro e r2 ⟨rfl, C2⟩))
  have S := (SS.out.drew.next C1).next C2
  clear C1 C2 CC SS KA KB
  obtain ⟨⟨x10, x11, -⟩, ⟨x00, x01, -⟩, -⟩ := S.cel
  go_wp2_with fail
  have K := ratRight_any S.lie.2.2.2.1 S.lie.2.2.1
  rw [FA.out] at K
  refine K.mono ?_
  clear K
  clear x10 x11 x00 x01
  rintro e y3 ⟨rfl, B1⟩
  have S := S.next B1
  clear B1
  obtain ⟨⟨x10, x11, -⟩, ⟨x00, x01, -⟩, -⟩ := S.cel
  go_wp2_with fail
  have K := ratRight_any S.lie.2.1 S.lie.1
  rw [FB.out] at K
  refine K.mono ?_
  clear K
  clear x10 x11 x00 x01
  rintro e y4 ⟨rfl, B1⟩
  have S := S.next B1
  clear B1
  obtain ⟨⟨x10, x11, -⟩, ⟨x00, x01, -⟩, -⟩ := S.cel
  go_wp2_with fail
  refine (ratAdd_bad S.lie.2.2.2.1 S.lie.2.2.1 S.lie.2.1 S.lie.1 NF.out).mono ?_
  clear x10 x11 x00 x01
  rintro e y5 ⟨JA5, jn5, jc5, JB5, jm5, jk5, rfl, M1, M2, B1⟩
  have S := ((S.next B1).put M1).put M2
  clear M1 M2 B1
  have S := S.box (.slice JA5 jn5 jc5) (.slice JB5 jm5 jk5)
  generalize hv5 : y5.alloc (.cells #[.slice JA5 jn5 jc5, .slice JB5 jm5 jk5] 50) = v5 at *
  obtain ⟨⟨s0, s1, -⟩, ⟨x10, x11, -⟩, ⟨x00, x01, -⟩, -⟩ := S.cel
  go_wp2_with fail
  clear hv5
  generalize y5.heap.size = z5 at *
  refine (ratSub_bad S.lie.2.2.2.2.2.1 S.lie.2.2.2.2.1 S.lie.2.2.2.1 S.lie.2.2.1 NF.out).mono ?_
  clear s0 s1 x10 x11 x00 x01
  rintro e y6 ⟨JA6, jn6, jc6, JB6, jm6, jk6, rfl, M1, M2, B1⟩
  have S := ((S.next B1).put M1).put M2
  clear M1 M2 B1
  have S := S.box (.slice JA6 jn6 jc6) (.slice JB6 jm6 jk6)
  generalize hv6 : y6.alloc (.cells #[.slice JA6 jn6 jc6, .slice JB6 jm6 jk6] 50) = v6 at *
  obtain ⟨⟨d0, d1, -⟩, ⟨s0, s1, -⟩, ⟨x10, x11, -⟩, ⟨x00, x01, -⟩, -⟩ := S.cel
  go_wp2_with fail
  clear hv6
  generalize y6.heap.size = z6 at *
  refine (ratMul_bad S.lie.2.2.2.2.2.2.2.1 S.lie.2.2.2.2.2.2.1 S.lie.2.2.2.2.2.1 S.lie.2.2.2.2.1 NF.out).mono ?_
  clear d0 d1 s0 s1 x10 x11 x00 x01
  rintro e y7 ⟨JA7, jn7, jc7, JB7, jm7, jk7, rfl, M1, M2, B1⟩
  have S := ((S.next B1).put M1).put M2
  clear M1 M2 B1
  have S := S.box (.slice JA7 jn7 jc7) (.slice JB7 jm7 jk7)
  generalize hv7 : y7.alloc (.cells #[.slice JA7 jn7 jc7, .slice JB7 jm7 jk7] 50) = v7 at *
  obtain ⟨⟨m0, m1, -⟩, ⟨d0, d1, -⟩, ⟨s0, s1, -⟩, ⟨x10, x11, -⟩, ⟨x00, x01, -⟩, -⟩ := S.cel
  go_wp2_with fail
  clear hv7
  generalize y7.heap.size = z7 at *
  refine (ratDiv_bad S.lie.2.2.2.2.2.2.2.2.2.1 S.lie.2.2.2.2.2.2.2.2.1 S.lie.2.2.2.2.2.2.2.1 S.lie.2.2.2.2.2.2.1 NF.out).mono ?_
  clear m0 m1 d0 d1 s0 s1 x10 x11 x00 x01
  rintro e y8 ⟨JA8, jn8, jc8, JB8, jm8, jk8, rfl, M1, M2, B1⟩
  have S := ((S.next B1).put M1).put M2
  clear M1 M2 B1
  have S := S.box (.slice JA8 jn8 jc8) (.slice JB8 jm8 jk8)
  generalize hv8 : y8.alloc (.cells #[.slice JA8 jn8 jc8, .slice JB8 jm8 jk8] 50) = v8 at *
  obtain ⟨⟨q0, q1, -⟩, ⟨m0, m1, -⟩, ⟨d0, d1, -⟩, ⟨s0, s1, -⟩, ⟨x10, x11, -⟩, ⟨x00, x01, -⟩, -⟩ := S.cel
  go_wp2_with fail
  clear hv8
  generalize y8.heap.size = z8 at *
  refine (ratCmp_bad S.lie.2.2.2.2.2.2.2.2.2.2.2.1 S.lie.2.2.2.2.2.2.2.2.2.2.1 S.lie.2.2.2.2.2.2.2.2.2.1 S.lie.2.2.2.2.2.2.2.2.1 NF.out).mono ?_
  clear q0 q1 m0 m1 d0 d1 s0 s1 x10 x11 x00 x01
  rintro e y9 ⟨rfl, B1⟩
  have S := S.next B1
  clear B1
  go_upto_region 13 with fail
  have S := S.box (.slice none 0 0) (.slice none 0 0)
  generalize y9.alloc (.cells #[.slice none 0 0, .slice none 0 0] 50) = v9 at *
  generalize y9.heap.size = z9 at *
  obtain ⟨⟨o0, o1, -⟩, ⟨q0, q1, -⟩, ⟨m0, m1, -⟩, ⟨d0, d1, -⟩, ⟨s0, s1, -⟩, ⟨x10, x11, -⟩, ⟨x00, x01, -⟩, -⟩ := S.cel
  go_wp2_with fail
  refine (told3_any S.lie.2.2.2.2.2.2.2.1 S.lie.2.2.2.2.2.2.1 (lim_z _) (lim_z _)).mono ?_
  clear o0 o1 q0 q1 m0 m1 d0 d1 s0 s1 x10 x11 x00 x01
  rintro e y10 ⟨rfl, B1⟩
  have S := S.next B1
  clear B1
  obtain ⟨⟨o0, o1, -⟩, ⟨q0, q1, -⟩, ⟨m0, m1, -⟩, ⟨d0, d1, -⟩, ⟨s0, s1, -⟩, ⟨x10, x11, -⟩, ⟨x00, x01, -⟩, -⟩ := S.cel
  go_wp2_with fail
  refine (told3_any S.lie.2.2.2.2.2.1 S.lie.2.2.2.2.1 (lim_z _) (lim_z _)).mono ?_
  clear o0 o1 q0 q1 m0 m1 d0 d1 s0 s1 x10 x11 x00 x01
  rintro e y11 ⟨rfl, B1⟩
  have S := S.next B1
  clear B1
  obtain ⟨⟨o0, o1, -⟩, ⟨q0, q1, -⟩, ⟨m0, m1, -⟩, ⟨d0, d1, -⟩, ⟨s0, s1, -⟩, ⟨x10, x11, -⟩, ⟨x00, x01, -⟩, -⟩ := S.cel
  go_wp2_with fail
  refine (told3_any S.lie.2.2.2.1 S.lie.2.2.1 (lim_z _) (lim_z _)).mono ?_
  clear o0 o1 q0 q1 m0 m1 d0 d1 s0 s1 x10 x11 x00 x01
  rintro e y12 ⟨rfl, B1⟩
  have S := S.next B1
  clear B1
  obtain ⟨⟨o0, o1, -⟩, ⟨q0, q1, -⟩, ⟨m0, m1, -⟩, ⟨d0, d1, -⟩, ⟨s0, s1, -⟩, ⟨x10, x11, -⟩, ⟨x00, x01, -⟩, -⟩ := S.cel
  go_wp2_with fail
  refine (told3_any S.lie.2.1 S.lie.1 (lim_z _) (lim_z _)).mono ?_
  clear o0 o1 q0 q1 m0 m1 d0 d1 s0 s1 x10 x11 x00 x01
  rintro e y13 ⟨rfl, B1⟩
  have S := S.next B1
  clear B1
  obtain ⟨⟨o0, o1, -⟩, ⟨q0, q1, -⟩, ⟨m0, m1, -⟩, ⟨d0, d1, -⟩, ⟨s0, s1, -⟩, ⟨x10, x11, -⟩, ⟨x00, x01, -⟩, -⟩ := S.cel
  go_wp2_with fail
  refine (awake3 _).mono ?_
  rintro e y14 ⟨rfl, B1⟩
  have S := S.next B1
  clear B1
  go_wp2_with fail
  go_ret
  exact ⟨rfl, S.bl⟩
set_option maxHeartbeats 8000000 in
set_option maxRecDepth 100000 in
theorem main {A A' D D' : Option Addr} {n c n' c' m k m' k' : Nat} {p q p' q' : Nat} {w : World} (h0 : Lim w A n c (limbs p)) (h0' : Lim w A' n' c' (limbs q)) (h1 : Lim w D m k (limbs p')) (h1' : Lim w D' m' k' (limbs q')) (sa : n ≤ 70) (sa' : n' ≤ 70) (sb : m ≤ 70) (sb' : m' ≤ 70) (f0 : Fq p q) (f1 : Fq p' q') : Calls Tryd.prog 5 #[.agg #[.slice A n c, .slice A' n' c'], .agg #[.slice D m k, .slice D' m' k']] w fun e w' => e = .returned (.bool true) ∧ Below w.heap.size w w' := by
  have FA := Lib.hid (frB_yes f0.fr); have FB := Lib.hid (frB_yes f1.fr); have F0 := Lib.hid f0; have F1 := Lib.hid f1
  clear f0 f1
  obtain ⟨V, hV⟩ : ∃ V : ByteArray, (⟨(dtext p ++ 47 :: dtext q).toArray⟩ : ByteArray) = V := ⟨_, rfl⟩
  have HV := Lib.hid hV
  clear hV
  obtain ⟨⟨R1a, R1b, R1c⟩, hR1⟩ : ∃ r : Ans, addR p q p' q' = r := ⟨_, rfl⟩
  have HR1 := Lib.hid hR1
  clear hR1
  obtain ⟨⟨R2a, R2b, R2c⟩, hR2⟩ : ∃ r : Ans, subR p q p' q' = r := ⟨_, rfl⟩
  have HR2 := Lib.hid hR2
  clear hR2
  obtain ⟨⟨R3a, R3b, R3c⟩, hR3⟩ : ∃ r : Ans, mulR p q p' q' = r := ⟨_, rfl⟩
  have HR3 := Lib.hid hR3
  clear hR3
  obtain ⟨⟨R4a, R4b, R4c⟩, hR4⟩ : ∃ r : Ans, divR p q p' q' = r := ⟨_, rfl⟩
  have HR4 := Lib.hid hR4
  clear hR4
  obtain ⟨X, hX⟩ : ∃ x, cmpN p q p' q' = x := ⟨_, rfl⟩
  obtain ⟨Y, hY⟩ : ∃ x, cmpE p q p' q' = x := ⟨_, rfl⟩
  have HX := Lib.hid hX; have HY := Lib.hid hY
  clear hX hY
  have SA := Lib.hid sa; have SB := Lib.hid sb; have SA' := Lib.hid sa'; have SB' := Lib.hid sb'
  clear sa sb sa' sb'
  have S := (((((Fs.start w).put h0).put h0').put h1).put h1') |>.box (.slice A n c) (.slice A' n' c') |>.box (.slice D m k) (.slice D' m' k')
  simp only [World.size_alloc] at S
  clear h0 h0' h1 h1'
  go_enter Tryd.func5, Tryd.ntmps5
  go_upto_region 1 with fail
  generalize (w.alloc (.cells #[.slice A n c, .slice A' n' c'] 50)).alloc (.cells #[.slice D m k, .slice D' m' k'] 50) = w0 at *
  obtain ⟨⟨x10, x11, -⟩, ⟨x00, x01, -⟩, -⟩ := S.cel
  go_wp2_with fail
  refine (small3_yes _ _ _ _ _ _ _ SA.out SA'.out).mono ?_
  clear x10 x11 x00 x01
  rintro e y1 ⟨rfl, B1⟩
  have S := S.next B1
  clear B1
  obtain ⟨⟨x10, x11, -⟩, ⟨x00, x01, -⟩, -⟩ := S.cel
  go_wp2_with fail
  refine (small3_yes _ _ _ _ _ _ _ SB.out SB'.out).mono ?_
  clear x10 x11 x00 x01
  rintro e y2 ⟨rfl, B1⟩
  have S := S.next B1
  clear B1
  obtain ⟨⟨x10, x11, -⟩, ⟨x00, x01, -⟩, -⟩ := S.cel
  go_upto_region 3 with fail
  have KA : Hid (∀ W, Below y2.heap.size y2 W → Calls Tryd.prog 35 #[.agg #[.slice A n c, .slice A' n' c']] W fun e w' => e = .returned (.bool true) ∧ Below W.heap.size W w') := fun W h => FA.out ▸ right3_any (S.lie.2.2.2.1.next h) (S.lie.2.2.1.next h)
  have KB : Hid (∀ W, Below y2.heap.size y2 W → Calls Tryd.prog 35 #[.agg #[.slice D m k, .slice D' m' k']] W fun e w' => e = .returned (.bool true) ∧ Below W.heap.size W w') := fun W h => FB.out ▸ right3_any (S.lie.2.1.next h) (S.lie.1.next h)
  have CC : Hid (∀ W, Below y2.heap.size y2 W → W.cell? ⟨w.heap.size, 0, none⟩ = some (.slice A n c) ∧ W.cell? ⟨w.heap.size, 1, none⟩ = some (.slice A' n' c') ∧ W.cell? ⟨w.heap.size + 1, 0, none⟩ = some (.slice D m k) ∧ W.cell? ⟨w.heap.size + 1, 1, none⟩ = some (.slice D' m' k')) := fun W h => ⟨keep_cell h x00, keep_cell h x01, keep_cell h x10, keep_cell h x11⟩
  have SS := Lib.hid S
  clear x10 x11 x00 x01
  clear S
  go_region_held3 (fun w' => w'.cell? ⟨w.heap.size, 0, none⟩ = some (.slice A n c) ∧ w'.cell? ⟨w.heap.size, 1, none⟩ = some (.slice A' n' c') ∧ w'.cell? ⟨w.heap.size + 1, 0, none⟩ = some (.slice D m k) ∧ w'.cell? ⟨w.heap.size + 1, 1, none⟩ = some (.slice D' m' k'))
    ((refine CC.out _ ?_; repeat (first | with_reducible exact Below.refl _ _ | with_reducible exact (Below.refl _ _).drew | refine below_step ?_ (by assumption))))
    (first
      | (go_at_call 35; (with_reducible refine (KA.out _ ?_).mono ?_); (· repeat (first | with_reducible exact Below.refl _ _ | with_reducible exact (Below.refl _ _).drew | refine below_step ?_ (by assumption))); rintro e r1 ⟨rfl, C1⟩)
      | (go_at_call 35; (with_reducible refine (KB.out _ ?_).mono ?_); (· repeat (first | with_reducible exact Below.refl _ _ | with_reducible exact (Below.refl _ _).drew | refine below_step ?_ (by assumption))); rintro e r2 ⟨rfl, C2⟩))
  have S := (SS.out.drew.next C1).next C2
  clear C1 C2 CC SS KA KB
  obtain ⟨⟨x10, x11, -⟩, ⟨x00, x01, -⟩, -⟩ := S.cel
  go_wp2_with fail
  have K := ratRight_any S.lie.2.2.2.1 S.lie.2.2.1
  rw [FA.out] at K
  refine K.mono ?_
  clear K
  clear x10 x11 x00 x01
  rintro e y3 ⟨rfl, B1⟩
  have S := S.next B1
  clear B1
  obtain ⟨⟨x10, x11, -⟩, ⟨x00, x01, -⟩, -⟩ := S.cel
  go_wp2_with fail
  have K := ratRight_any S.lie.2.1 S.lie.1
  rw [FB.out] at K
  refine K.mono ?_
  clear K
  clear x10 x11 x00 x01
  rintro e y4 ⟨rfl, B1⟩
  have S := S.next B1
  clear B1
  obtain ⟨⟨x10, x11, -⟩, ⟨x00, x01, -⟩, -⟩ := S.cel
  go_wp2_with fail
  have K := ratAdd_any S.lie.2.2.2.1 S.lie.2.2.1 S.lie.2.1 S.lie.1 F0.out F1.out
  rw [HR1.out] at K
  refine K.mono ?_
  clear K
  clear x10 x11 x00 x01
  rintro e y5 ⟨JA5, jn5, jc5, JB5, jm5, jk5, rfl, M1, M2, B1⟩
  have S := ((S.next B1).put M1).put M2
  clear M1 M2 B1
  have S := S.box (.slice JA5 jn5 jc5) (.slice JB5 jm5 jk5)
  generalize hv5 : y5.alloc (.cells #[.slice JA5 jn5 jc5, .slice JB5 jm5 jk5] 50) = v5 at *
  obtain ⟨⟨s0, s1, -⟩, ⟨x10, x11, -⟩, ⟨x00, x01, -⟩, -⟩ := S.cel
  go_wp2_with fail
  clear hv5
  generalize y5.heap.size = z5 at *
  have K := ratSub_any S.lie.2.2.2.2.2.1 S.lie.2.2.2.2.1 S.lie.2.2.2.1 S.lie.2.2.1 F0.out F1.out
  rw [HR2.out] at K
  refine K.mono ?_
  clear K
  clear s0 s1 x10 x11 x00 x01
  rintro e y6 ⟨JA6, jn6, jc6, JB6, jm6, jk6, rfl, M1, M2, B1⟩
  have S := ((S.next B1).put M1).put M2
  clear M1 M2 B1
  have S := S.box (.slice JA6 jn6 jc6) (.slice JB6 jm6 jk6)
  generalize hv6 : y6.alloc (.cells #[.slice JA6 jn6 jc6, .slice JB6 jm6 jk6] 50) = v6 at *
  obtain ⟨⟨d0, d1, -⟩, ⟨s0, s1, -⟩, ⟨x10, x11, -⟩, ⟨x00, x01, -⟩, -⟩ := S.cel
  go_wp2_with fail
  clear hv6
  generalize y6.heap.size = z6 at *
  have K := ratMul_any S.lie.2.2.2.2.2.2.2.1 S.lie.2.2.2.2.2.2.1 S.lie.2.2.2.2.2.1 S.lie.2.2.2.2.1 F0.out F1.out
  rw [HR3.out] at K
  refine K.mono ?_
  clear K
  clear d0 d1 s0 s1 x10 x11 x00 x01
  rintro e y7 ⟨JA7, jn7, jc7, JB7, jm7, jk7, rfl, M1, M2, B1⟩
  have S := ((S.next B1).put M1).put M2
  clear M1 M2 B1
  have S := S.box (.slice JA7 jn7 jc7) (.slice JB7 jm7 jk7)
  generalize hv7 : y7.alloc (.cells #[.slice JA7 jn7 jc7, .slice JB7 jm7 jk7] 50) = v7 at *
  obtain ⟨⟨m0, m1, -⟩, ⟨d0, d1, -⟩, ⟨s0, s1, -⟩, ⟨x10, x11, -⟩, ⟨x00, x01, -⟩, -⟩ := S.cel
  go_wp2_with fail
  clear hv7
  generalize y7.heap.size = z7 at *
  have K := ratDiv_any S.lie.2.2.2.2.2.2.2.2.2.1 S.lie.2.2.2.2.2.2.2.2.1 S.lie.2.2.2.2.2.2.2.1 S.lie.2.2.2.2.2.2.1 F0.out F1.out
  rw [HR4.out] at K
  refine K.mono ?_
  clear K
  clear m0 m1 d0 d1 s0 s1 x10 x11 x00 x01
  rintro e y8 ⟨JA8, jn8, jc8, JB8, jm8, jk8, rfl, M1, M2, B1⟩
  have S := ((S.next B1).put M1).put M2
  clear M1 M2 B1
  have S := S.box (.slice JA8 jn8 jc8) (.slice JB8 jm8 jk8)
  generalize hv8 : y8.alloc (.cells #[.slice JA8 jn8 jc8, .slice JB8 jm8 jk8] 50) = v8 at *
  obtain ⟨⟨q0, q1, -⟩, ⟨m0, m1, -⟩, ⟨d0, d1, -⟩, ⟨s0, s1, -⟩, ⟨x10, x11, -⟩, ⟨x00, x01, -⟩, -⟩ := S.cel
  go_wp2_with fail
  clear hv8
  generalize y8.heap.size = z8 at *
  have K := ratCmp_any S.lie.2.2.2.2.2.2.2.2.2.2.2.1 S.lie.2.2.2.2.2.2.2.2.2.2.1 S.lie.2.2.2.2.2.2.2.2.2.1 S.lie.2.2.2.2.2.2.2.2.1 F0.out F1.out
  rw [HX.out, HY.out] at K
  refine K.mono ?_
  clear K
  clear q0 q1 m0 m1 d0 d1 s0 s1 x10 x11 x00 x01
  rintro e y9 ⟨rfl, B1⟩
  have S := S.next B1
  clear B1
  obtain ⟨⟨q0, q1, -⟩, ⟨m0, m1, -⟩, ⟨d0, d1, -⟩, ⟨s0, s1, -⟩, ⟨x10, x11, -⟩, ⟨x00, x01, -⟩, -⟩ := S.cel
  go_wp2_with fail
  have K := cmp3_any S.lie.2.2.2.2.2.2.2.2.2.2.2.1 S.lie.2.2.2.2.2.2.2.2.2.2.1 S.lie.2.2.2.2.2.2.2.2.2.1 S.lie.2.2.2.2.2.2.2.2.1 F0.out F1.out
  rw [HX.out, HY.out] at K
  refine K.mono ?_
  clear K
  clear q0 q1 m0 m1 d0 d1 s0 s1 x10 x11 x00 x01
  rintro e y10 ⟨rfl, B1⟩
  have S := S.next B1
  clear B1
  obtain ⟨⟨q0, q1, -⟩, ⟨m0, m1, -⟩, ⟨d0, d1, -⟩, ⟨s0, s1, -⟩, ⟨x10, x11, -⟩, ⟨x00, x01, -⟩, -⟩ := S.cel
  go_upto_region 15 with fail
  have KA : Hid (∀ W, Below y10.heap.size y10 W → Calls Tryd.prog 43 #[.agg #[.slice A n c, .slice A' n' c']] W fun e w' => e = .returned (.string V) ∧ Below W.heap.size W w') := fun W h => HV.out ▸ ratText_yes (S.lie.2.2.2.2.2.2.2.2.2.2.2.1.next h) (S.lie.2.2.2.2.2.2.2.2.2.2.1.next h) F0.out
  have KB : Hid (∀ W, Below y10.heap.size y10 W → Calls Tryd.prog 45 #[.agg #[.slice A n c, .slice A' n' c']] W fun e w' => e = .returned (.string V) ∧ Below W.heap.size W w') := fun W h => HV.out ▸ text3_any (S.lie.2.2.2.2.2.2.2.2.2.2.2.1.next h) (S.lie.2.2.2.2.2.2.2.2.2.2.1.next h) F0.out
  have CC : Hid (∀ W, Below y10.heap.size y10 W → W.cell? ⟨w.heap.size, 0, none⟩ = some (.slice A n c) ∧ W.cell? ⟨w.heap.size, 1, none⟩ = some (.slice A' n' c') ∧ W.cell? ⟨w.heap.size + 1, 0, none⟩ = some (.slice D m k) ∧ W.cell? ⟨w.heap.size + 1, 1, none⟩ = some (.slice D' m' k')) := fun W h => ⟨keep_cell h x00, keep_cell h x01, keep_cell h x10, keep_cell h x11⟩
  have SS := Lib.hid S
  clear q0 q1 m0 m1 d0 d1 s0 s1 x10 x11 x00 x01
  clear S
  go_region_held3 (fun w' => w'.cell? ⟨w.heap.size, 0, none⟩ = some (.slice A n c) ∧ w'.cell? ⟨w.heap.size, 1, none⟩ = some (.slice A' n' c') ∧ w'.cell? ⟨w.heap.size + 1, 0, none⟩ = some (.slice D m k) ∧ w'.cell? ⟨w.heap.size + 1, 1, none⟩ = some (.slice D' m' k'))
    ((refine CC.out _ ?_; repeat (first | with_reducible exact Below.refl _ _ | with_reducible exact (Below.refl _ _).drew | refine below_step ?_ (by assumption))))
    (first
      | (go_at_call 43; (with_reducible refine (KA.out _ ?_).mono ?_); (· repeat (first | with_reducible exact Below.refl _ _ | with_reducible exact (Below.refl _ _).drew | refine below_step ?_ (by assumption))); rintro e r3 ⟨rfl, C1⟩)
      | (go_at_call 45; (with_reducible refine (KB.out _ ?_).mono ?_); (· repeat (first | with_reducible exact Below.refl _ _ | with_reducible exact (Below.refl _ _).drew | refine below_step ?_ (by assumption))); rintro e r4 ⟨rfl, C2⟩))
  have S := (SS.out.drew.next C1).next C2
  clear C1 C2 CC SS KA KB
  obtain ⟨⟨q0, q1, -⟩, ⟨m0, m1, -⟩, ⟨d0, d1, -⟩, ⟨s0, s1, -⟩, ⟨x10, x11, -⟩, ⟨x00, x01, -⟩, -⟩ := S.cel
  go_wp2_with fail
  have K := do1_any S.lie.2.2.2.2.2.2.2.2.2.2.2.1 S.lie.2.2.2.2.2.2.2.2.2.2.1 S.lie.2.2.2.2.2.2.2.2.2.1 S.lie.2.2.2.2.2.2.2.2.1 F0.out F1.out
  rw [HR1.out] at K
  refine K.mono ?_
  clear K
  clear q0 q1 m0 m1 d0 d1 s0 s1 x10 x11 x00 x01
  rintro e y11 ⟨JA11, jn11, jc11, JB11, jm11, jk11, rfl, M1, M2, B1⟩
  have S := ((S.next B1).put M1).put M2
  clear M1 M2 B1
  have S := S.box (.slice JA11 jn11 jc11) (.slice JB11 jm11 jk11)
  generalize hv11 : y11.alloc (.cells #[.slice JA11 jn11 jc11, .slice JB11 jm11 jk11] 50) = v11 at *
  obtain ⟨⟨s20, s21, -⟩, ⟨q0, q1, -⟩, ⟨m0, m1, -⟩, ⟨d0, d1, -⟩, ⟨s0, s1, -⟩, ⟨x10, x11, -⟩, ⟨x00, x01, -⟩, -⟩ := S.cel
  go_wp2_with fail
  clear hv11
  generalize y11.heap.size = z11 at *
  have K := do2_any S.lie.2.2.2.2.2.2.2.2.2.2.2.2.2.1 S.lie.2.2.2.2.2.2.2.2.2.2.2.2.1 S.lie.2.2.2.2.2.2.2.2.2.2.2.1 S.lie.2.2.2.2.2.2.2.2.2.2.1 F0.out F1.out
  rw [HR2.out] at K
  refine K.mono ?_
  clear K
  clear s20 s21 q0 q1 m0 m1 d0 d1 s0 s1 x10 x11 x00 x01
  rintro e y12 ⟨JA12, jn12, jc12, JB12, jm12, jk12, rfl, M1, M2, B1⟩
  have S := ((S.next B1).put M1).put M2
  clear M1 M2 B1
  have S := S.box (.slice JA12 jn12 jc12) (.slice JB12 jm12 jk12)
  generalize hv12 : y12.alloc (.cells #[.slice JA12 jn12 jc12, .slice JB12 jm12 jk12] 50) = v12 at *
  obtain ⟨⟨d20, d21, -⟩, ⟨s20, s21, -⟩, ⟨q0, q1, -⟩, ⟨m0, m1, -⟩, ⟨d0, d1, -⟩, ⟨s0, s1, -⟩, ⟨x10, x11, -⟩, ⟨x00, x01, -⟩, -⟩ := S.cel
  go_wp2_with fail
  clear hv12
  generalize y12.heap.size = z12 at *
  have K := do3_any S.lie.2.2.2.2.2.2.2.2.2.2.2.2.2.2.2.1 S.lie.2.2.2.2.2.2.2.2.2.2.2.2.2.2.1 S.lie.2.2.2.2.2.2.2.2.2.2.2.2.2.1 S.lie.2.2.2.2.2.2.2.2.2.2.2.2.1 F0.out F1.out
  rw [HR3.out] at K
  refine K.mono ?_
  clear K
  clear d20 d21 s20 s21 q0 q1 m0 m1 d0 d1 s0 s1 x10 x11 x00 x01
  rintro e y13 ⟨JA13, jn13, jc13, JB13, jm13, jk13, rfl, M1, M2, B1⟩
  have S := ((S.next B1).put M1).put M2
  clear M1 M2 B1
  have S := S.box (.slice JA13 jn13 jc13) (.slice JB13 jm13 jk13)
  generalize hv13 : y13.alloc (.cells #[.slice JA13 jn13 jc13, .slice JB13 jm13 jk13] 50) = v13 at *
  obtain ⟨⟨m20, m21, -⟩, ⟨d20, d21, -⟩, ⟨s20, s21, -⟩, ⟨q0, q1, -⟩, ⟨m0, m1, -⟩, ⟨d0, d1, -⟩, ⟨s0, s1, -⟩, ⟨x10, x11, -⟩, ⟨x00, x01, -⟩, -⟩ := S.cel
  go_wp2_with fail
  clear hv13
  generalize y13.heap.size = z13 at *
  have K := do4_any S.lie.2.2.2.2.2.2.2.2.2.2.2.2.2.2.2.2.2.1 S.lie.2.2.2.2.2.2.2.2.2.2.2.2.2.2.2.2.1 S.lie.2.2.2.2.2.2.2.2.2.2.2.2.2.2.2.1 S.lie.2.2.2.2.2.2.2.2.2.2.2.2.2.2.1 F0.out F1.out
  rw [HR4.out] at K
  refine K.mono ?_
  clear K
  clear m20 m21 d20 d21 s20 s21 q0 q1 m0 m1 d0 d1 s0 s1 x10 x11 x00 x01
  rintro e y14 ⟨JA14, jn14, jc14, JB14, jm14, jk14, rfl, M1, M2, B1⟩
  have S := ((S.next B1).put M1).put M2
  clear M1 M2 B1
  have S := S.box (.slice JA14 jn14 jc14) (.slice JB14 jm14 jk14)
  generalize hv14 : y14.alloc (.cells #[.slice JA14 jn14 jc14, .slice JB14 jm14 jk14] 50) = v14 at *
  obtain ⟨⟨q20, q21, -⟩, ⟨m20, m21, -⟩, ⟨d20, d21, -⟩, ⟨s20, s21, -⟩, ⟨q0, q1, -⟩, ⟨m0, m1, -⟩, ⟨d0, d1, -⟩, ⟨s0, s1, -⟩, ⟨x10, x11, -⟩, ⟨x00, x01, -⟩, -⟩ := S.cel
  go_wp2_with fail
  clear hv14
  generalize y14.heap.size = z14 at *
  refine (told3_any S.lie.2.2.2.2.2.2.2.2.2.2.2.2.2.2.2.1 S.lie.2.2.2.2.2.2.2.2.2.2.2.2.2.2.1 S.lie.2.2.2.2.2.2.2.1 S.lie.2.2.2.2.2.2.1).mono ?_
  clear q20 q21 m20 m21 d20 d21 s20 s21 q0 q1 m0 m1 d0 d1 s0 s1 x10 x11 x00 x01
  rintro e y15 ⟨rfl, B1⟩
  have S := S.next B1
  clear B1
  obtain ⟨⟨q20, q21, -⟩, ⟨m20, m21, -⟩, ⟨d20, d21, -⟩, ⟨s20, s21, -⟩, ⟨q0, q1, -⟩, ⟨m0, m1, -⟩, ⟨d0, d1, -⟩, ⟨s0, s1, -⟩, ⟨x10, x11, -⟩, ⟨x00, x01, -⟩, -⟩ := S.cel
  go_wp2_with fail
  refine (told3_any S.lie.2.2.2.2.2.2.2.2.2.2.2.2.2.1 S.lie.2.2.2.2.2.2.2.2.2.2.2.2.1 S.lie.2.2.2.2.2.1 S.lie.2.2.2.2.1).mono ?_
  clear q20 q21 m20 m21 d20 d21 s20 s21 q0 q1 m0 m1 d0 d1 s0 s1 x10 x11 x00 x01
  rintro e y16 ⟨rfl, B1⟩
  have S := S.next B1
  clear B1
  obtain ⟨⟨q20, q21, -⟩, ⟨m20, m21, -⟩, ⟨d20, d21, -⟩, ⟨s20, s21, -⟩, ⟨q0, q1, -⟩, ⟨m0, m1, -⟩, ⟨d0, d1, -⟩, ⟨s0, s1, -⟩, ⟨x10, x11, -⟩, ⟨x00, x01, -⟩, -⟩ := S.cel
  go_wp2_with fail
  refine (told3_any S.lie.2.2.2.2.2.2.2.2.2.2.2.1 S.lie.2.2.2.2.2.2.2.2.2.2.1 S.lie.2.2.2.1 S.lie.2.2.1).mono ?_
  clear q20 q21 m20 m21 d20 d21 s20 s21 q0 q1 m0 m1 d0 d1 s0 s1 x10 x11 x00 x01
  rintro e y17 ⟨rfl, B1⟩
  have S := S.next B1
  clear B1
  obtain ⟨⟨q20, q21, -⟩, ⟨m20, m21, -⟩, ⟨d20, d21, -⟩, ⟨s20, s21, -⟩, ⟨q0, q1, -⟩, ⟨m0, m1, -⟩, ⟨d0, d1, -⟩, ⟨s0, s1, -⟩, ⟨x10, x11, -⟩, ⟨x00, x01, -⟩, -⟩ := S.cel
  go_wp2_with fail
  refine (told3_any S.lie.2.2.2.2.2.2.2.2.2.1 S.lie.2.2.2.2.2.2.2.2.1 S.lie.2.1 S.lie.1).mono ?_
  clear q20 q21 m20 m21 d20 d21 s20 s21 q0 q1 m0 m1 d0 d1 s0 s1 x10 x11 x00 x01
  rintro e y18 ⟨rfl, B1⟩
  have S := S.next B1
  clear B1
  obtain ⟨⟨q20, q21, -⟩, ⟨m20, m21, -⟩, ⟨d20, d21, -⟩, ⟨s20, s21, -⟩, ⟨q0, q1, -⟩, ⟨m0, m1, -⟩, ⟨d0, d1, -⟩, ⟨s0, s1, -⟩, ⟨x10, x11, -⟩, ⟨x00, x01, -⟩, -⟩ := S.cel
  go_wp2_with fail
  refine (awake3 _).mono ?_
  rintro e y19 ⟨rfl, B1⟩
  have S := S.next B1
  clear B1
  go_wp2_with fail
  go_ret
  exact ⟨rfl, S.bl⟩
theorem walk {A A' D D' : Option Addr} {n c n' c' m k m' k' : Nat} {xs ys us vs : List Nat} {w : World} (h0 : Lim w A n c xs) (h0' : Lim w A' n' c' ys) (h1 : Lim w D m k us) (h1' : Lim w D' m' k' vs) : Calls Tryd.prog 5 #[.agg #[.slice A n c, .slice A' n' c'], .agg #[.slice D m k, .slice D' m' k']] w fun e w' => e = .returned (.bool true) ∧ Below w.heap.size w w' := by
  by_cases sa : n ≤ 70 ∧ n' ≤ 70
  · by_cases sb : m ≤ 70 ∧ m' ≤ 70
    · by_cases fa : Fr xs ys
      · by_cases fb : Fr us vs
        · obtain ⟨g0, e0, e0'⟩ := fa.num h0.lo h0'.lo
          obtain ⟨g1, e1, e1'⟩ := fb.num h1.lo h1'.lo
          exact main (e0 ▸ h0) (e0' ▸ h0') (e1 ▸ h1) (e1' ▸ h1') sa.1 sa.2 sb.1 sb.2 g0 g1
        · exact no10 h0 h0' h1 h1' sa.1 sa.2 sb.1 sb.2 fa fb
      · by_cases fb : Fr us vs
        · exact no01 h0 h0' h1 h1' sa.1 sa.2 sb.1 sb.2 fa fb
        · exact no00 h0 h0' h1 h1' sa.1 sa.2 sb.1 sb.2 fa fb
    · exact long2 h0 h0' h1 h1' sa.1 sa.2 sb
  · exact long1 h0 h0' h1 h1' sa

set_option maxRecDepth 100000 in
theorem lifted (os : Os) (started : os.Started) (H : Type) (enc : TypeId × Value → H) :
    ReturnsInHanded {} Tryd.checked os 5 .any (fun w args => (Rows.ratTellsSpec.pre enc Tryd.prog Tryd.f5 Rows.ratTellsRow.domain false w args ∧ laidMetH Tryd.prog Rows.ratTellsRow.laid w) ∧ sizedMet enc Tryd.prog Tryd.f5 (OpenSpec.ofChange Rows.ratTellsSpec) false w args)
      (Rows.ratTellsSpec.post enc Tryd.prog Tryd.f5 false true false false) := by
  refine returnsInHanded_of_change_and (C := Tryd.checked) (X := fun w _ => laidMetH Tryd.prog Rows.ratTellsRow.laid w) (fun _ _ _ hh h => h.of_heap hh) own started (by kernel_rfl) Tryd.func5
    (ChangeSpec.witness_shaped (enc := enc) (C := Tryd.checked) (os := os) (X := fun w _ => laidMetH Tryd.prog Rows.ratTellsRow.laid w) false (World.laidAll Tryd.prog os Rows.ratTellsRow.laid) #[.agg #[.slice none 0 0, .slice none 0 0], .agg #[.slice none 0 0, .slice none 0 0]] 8 (World.laidAll_os _ _ _)
      (World.shaped_of_ZipB (by kernel_rfl) (by kernel_rfl)) (by kernel_rfl) (by kernel_rfl) (by kernel_rfl)
      (by rw [MakeChecks.laidMetH_plain _ _ _ (by kernel_rfl)]; exact laidMet_laidAll _ (by kernel_rfl) (by kernel_rfl))) ?_
  intro W base args ds gs before hval0 hW _ _ _ _
  have hval : ∀ (j : Nat) t v, Tryd.f5.params[j]? = some t → args[j]? = some v → Value.okWide Tryd.prog W .any base t v := hval0
  have hW' := hW
  obtain ⟨p, q, hA0, hV, rfl, _, _⟩ := hW
  have hA : DataW.TrodAll enc Tryd.prog W 0 (fun _ => true) true Tryd.f5.params.toList args.toList ds p := hA0
  rw [Tryd.params5] at hA hval
  obtain ⟨v0, v1, d0, d1, p0, p1, rfl, rfl, rfl, h0t, h1t⟩ := trodAll_two hA
  obtain ⟨rfl, rfl⟩ := trodVars_none hV
  obtain ⟨⟨A, n, c, xs, A', n', c', ys⟩, rfl, h0, h0'⟩ := open_rat (hval 0 50 v0 rfl rfl) h0t
  obtain ⟨⟨D, m, k, us, D', m', k', vs⟩, rfl, h1, h1'⟩ := open_rat (hval 1 50 v1 rfl rfl) h1t
  clear hA0 hval0
  simp only [List.append_nil] at hW'
  have hlt : ∀ x ∈ p0 ++ p1, x.block < W.heap.size := fun x hx => by simpa using hW'.lt x (by simpa using hx)
  refine (walk h0 h0' h1 h1').mono fun e W' ⟨he, hbl⟩ => ?_
  subst he
  refine ⟨_, rfl, post_args hW' (fun _ _ _ => trodAll_mk1 (shut_bool Tryd.underlying4 _)) ?_ (fun _ => rfl) hbl⟩
  have t0 := Below.trod laidOut readable_rat typed_rat h0t hbl (fun x hx => hlt x (List.mem_append_left _ hx))
  have t1 := Below.trod laidOut readable_rat typed_rat h1t hbl (fun x hx => hlt x (List.mem_append_right _ hx))
  exact trodAll_mk2 t0 t1

theorem holds : Rows.RatTellsSaid :=
  OpenClaim.holds_of_wide 5 Tryd.f5 rfl rfl rfl rfl rfl rfl rfl ⟨rfl, rfl, rfl, rfl, rfl⟩ rfl rfl rfl rfl rfl (by kernel_rfl) Tryd.func5 (by kernel_rfl)
    (of_decide_eq_true (by kernel_rfl)) (by unfold Func.isWrapper; first | (rw [if_pos (by decide +kernel)]; kernel_rfl) | (rw [if_neg (by decide +kernel)]; exact ⟨rfl, rfl⟩))
    (fun os started H enc _ => lifted os started H enc)
theorem proved : Rows.RatTellsCardSaid :=
  Claim7.holds_tied_plain_at .later [] [.data, .pinned] true (true, "7bac054c24a4a5cdd971a304af75554519beee4c5270e6492823ef9c09dcec6f") false
    holds (fun _ h => by cases h) (by kernel_rfl) (fun _ h => by cases h) ratTells_row_tie rfl ⟨rfl, rfl⟩ (by kernel_rfl) rfl
    (fun f fn hf hfn => by
      obtain rfl : f = 5 := Option.some.inj ((show Tryd.prog.funcNamed "samphire/samphirelaw03.RatTells" = some 5 by kernel_rfl).symm.trans hf) |>.symm
      obtain rfl : fn = Tryd.f5 := (Option.some.inj (Tryd.func5.symm.trans hfn)).symm
      exact ⟨by kernel_rfl, fun j t ht => by
        rw [Tryd.params5] at ht
        rcases j with _ | _ | j
        · obtain rfl : t = 50 := by simpa using ht.symm
          exact (show Tryd.prog.wantsStandIn 50 = false by kernel_rfl)
        · obtain rfl : t = 50 := by simpa using ht.symm
          exact (show Tryd.prog.wantsStandIn 50 = false by kernel_rfl)
        · simp at ht⟩)
    (by kernel_rfl)
#print axioms proved
end Go.Proofs.YtnacokogihanoaaDoor.ratTells
