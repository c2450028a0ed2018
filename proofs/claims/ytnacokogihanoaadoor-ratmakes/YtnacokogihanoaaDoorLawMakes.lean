/- For all limbs, twice, and every word the law RatMakes answers true: what is made of any two limbs is what the document says, or refused; it is a fraction. No condition beyond the row; the tables of unicode/utf8 start as the program lays them (tied). -/
import Derived.Test.YtnacokogihanoaaDoorRBase
import Derived.Test.YtnacokogihanoaaDoorRNum
import Derived.Test.YtnacokogihanoaaDoorRRA
import Derived.Test.YtnacokogihanoaaDoorRefOf
namespace Go.Proofs.YtnacokogihanoaaDoor.ratMakes
open Go.ChangeShapes Go.WideShapes Go.ChangeAt Go.RowKit
open Go.Proofs.YtnacokogihanoaaDoor
set_option linter.unusedVariables false
set_option linter.unusedSimpArgs false

theorem lim1 (w : World) : Lim (w.alloc (.cells #[.int .u32 1] 37)) (some ⟨w.heap.size, 0, none⟩) 1 1 (limbs 1) := lim_one w 1 (by decide) (by decide)
theorem lim1d (w : World) : Lim (w.drew.alloc (.cells #[.int .u32 1] 37)) (some ⟨w.heap.size, 0, none⟩) 1 1 (limbs 1) := lim1 w.drew
theorem same_yes {A A' : Option Addr} {n c n' c' : Nat} {xs : List Nat} {w : World} (ha : Lim w A n c xs) (hb : Lim w A' n' c' xs) : Calls Tryd.prog 22 #[.slice A n c, .slice A' n' c'] w fun e w' => e = .returned (.bool true) ∧ Below w.heap.size w w' := by
  have := same_bel ha hb
  rwa [sameB_yes] at this
theorem lim0 (w : World) : Lim w none 0 0 (limbs 0) := by rw [limbs_zero]; exact Lim.none_ _ _ _ (by decide)
set_option maxHeartbeats 8000000 in
set_option maxRecDepth 100000 in
theorem long1 {A D : Option Addr} {n c m k x : Nat} {xs us : List Nat} {w : World} (h0 : Lim w A n c xs) (h1 : Lim w D m k us) (hx : x < 18446744073709551616) (z : 70 < n) : Calls Tryd.prog 6 #[.slice A n c, .slice D m k, .int .u64 (x : Int)] w fun e w' => e = .returned (.bool true) ∧ Below w.heap.size w w' := by
  have i1 : (70 : Int) < n := by omega
  clear z hx
  have S := ((Fs.start w).put h0).put h1
  clear h0 h1
  go_enter Tryd.func6, Tryd.ntmps6
  go_wp2_with fail
  refine (awake3 _).mono ?_
  rintro e y1 ⟨rfl, B1⟩
  have S := S.next B1
  clear B1
  go_wp2_with fail
  go_ret
  exact ⟨rfl, S.bl⟩
set_option maxHeartbeats 8000000 in
set_option maxRecDepth 100000 in
theorem long2 {A D : Option Addr} {n c m k x : Nat} {xs us : List Nat} {w : World} (h0 : Lim w A n c xs) (h1 : Lim w D m k us) (hx : x < 18446744073709551616) (z0 : n ≤ 70) (z : 70 < m) : Calls Tryd.prog 6 #[.slice A n c, .slice D m k, .int .u64 (x : Int)] w fun e w' => e = .returned (.bool true) ∧ Below w.heap.size w w' := by
  have i1 : ¬ (70 : Int) < n := by omega
  have i2 : (70 : Int) < m := by omega
  clear z0 z hx
  have S := ((Fs.start w).put h0).put h1
  clear h0 h1
  go_enter Tryd.func6, Tryd.ntmps6
  go_wp2_with fail
  refine (awake3 _).mono ?_
  rintro e y1 ⟨rfl, B1⟩
  have S := S.next B1
  clear B1
  go_wp2_with fail
  go_ret
  exact ⟨rfl, S.bl⟩
set_option maxHeartbeats 8000000 in
set_option maxRecDepth 100000 in
theorem bad1 {A D : Option Addr} {n c m k x : Nat} {xs us : List Nat} {w : World} (h0 : Lim w A n c xs) (h1 : Lim w D m k us) (hx : x < 18446744073709551616) (z0 : n ≤ 70) (z1 : m ≤ 70) (z : ¬ Nt xs) : Calls Tryd.prog 6 #[.slice A n c, .slice D m k, .int .u64 (x : Int)] w fun e w' => e = .returned (.bool true) ∧ Below w.heap.size w w' := by
  have Z := Lib.hid z
  have KZ : Hid (NoTwo xs us) := fun h => z h.1
  clear z
  have i1 : ¬ (70 : Int) < n := by omega
  have i2 : ¬ (70 : Int) < m := by omega
  have HX := Lib.hid hx
  clear z0 z1 hx
  have S := ((Fs.start w).put h0).put h1
  clear h0 h1
  go_enter Tryd.func6, Tryd.ntmps6
  go_wp2_with fail
  refine (make_bad S.lie.2.1 S.lie.1 KZ.out).mono ?_
  rintro e y1 ⟨JA1, jn1, jc1, JB1, jm1, jk1, rfl, M1, M2, B1⟩
  have S := ((S.next B1).put M1).put M2
  clear M1 M2 B1
  have S := S.box (.slice JA1 jn1 jc1) (.slice JB1 jm1 jk1)
  generalize hv1 : y1.alloc (.cells #[.slice JA1 jn1 jc1, .slice JB1 jm1 jk1] 50) = v1 at *
  obtain ⟨⟨r0, r1, -⟩, -⟩ := S.cel
  go_wp2_with fail
  clear hv1
  generalize y1.heap.size = z1 at *
  refine (whole_r _ HX.out _).mono ?_
  clear r0 r1
  rintro e y2 ⟨JA2, jn2, jc2, JB2, jm2, jk2, rfl, M1, M2, B1⟩
  have S := ((S.next B1).put M1).put M2
  clear M1 M2 B1
  have S := S.box (.slice JA2 jn2 jc2) (.slice JB2 jm2 jk2)
  generalize hv2 : y2.alloc (.cells #[.slice JA2 jn2 jc2, .slice JB2 jm2 jk2] 50) = v2 at *
  obtain ⟨⟨v0, v1, -⟩, ⟨r0, r1, -⟩, -⟩ := S.cel
  go_upto_region 5 with fail
  clear hv2
  generalize y2.heap.size = z2 at *
  have SS := Lib.hid S
  have h0 := v0; have h1 := v1
  have KS : Hid (∀ (W : World) (G : Option Addr) (g h : Nat), Below v2.heap.size v2 W → Lim W G g h (limbs x) → Calls Tryd.prog 22 #[.slice JA2 jn2 jc2, .slice G g h] W fun e w' => e = .returned (.bool true) ∧ Below W.heap.size W w') := fun W G g h hb l => same_yes (S.lie.2.1.next hb) l
  have KT : Hid (∀ (W : World) (G : Option Addr) (g h : Nat), Below v2.heap.size v2 W → Lim W G g h (limbs 1) → Calls Tryd.prog 22 #[.slice JB2 jm2 jk2, .slice G g h] W fun e w' => e = .returned (.bool true) ∧ Below W.heap.size W w') := fun W G g h hb l => same_yes (S.lie.1.next hb) l
  clear v0 v1 r0 r1
  clear S
  go_cut [39] (fun s39 wx => s39 = .bool false ∧ Below v2.heap.size v2 wx)
  case first =>
    go_region_held3 (fun w' => w'.cell? ⟨z2, 0, none⟩ = some (.slice JA2 jn2 jc2) ∧ w'.cell? ⟨z2, 1, none⟩ = some (.slice JB2 jm2 jk2))
      ((refine ⟨?_, ?_⟩ <;> (repeat (first | with_reducible exact h0 | with_reducible exact h1 | with_reducible refine keep_drew ?_ | with_reducible refine keep_alloc ?_ _ | with_reducible refine keep_cell (by assumption) ?_))))
      (first
        | (go_at_call 19; refine (refOf_any _ HX.out _).mono ?_; rintro e r1 ⟨A1, n1, c1, rfl, L1, C1⟩)
        | (go_at_call 22; (with_reducible refine (KS.out _ _ _ _ ?_ ?_).mono ?_); (· repeat (first | with_reducible exact Below.refl _ _ | with_reducible exact (Below.refl _ _).drew | with_reducible refine below_al ?_ _ | with_reducible refine Below.drew ?_ | refine below_step ?_ (by assumption))); (· repeat (first | assumption | exact lim1 _ | exact lim1d _ | with_reducible refine Lim.alloc ?_ _ | refine Lim.next ?_ (by assumption))); rintro e r2 ⟨rfl, C2⟩)
        | (go_at_call 22; (with_reducible refine (KT.out _ _ _ _ ?_ ?_).mono ?_); (· repeat (first | with_reducible exact Below.refl _ _ | with_reducible exact (Below.refl _ _).drew | with_reducible refine below_al ?_ _ | with_reducible refine Below.drew ?_ | refine below_step ?_ (by assumption))); (· repeat (first | assumption | exact lim1 _ | exact lim1d _ | with_reducible refine Lim.alloc ?_ _ | refine Lim.next ?_ (by assumption))); rintro e r3 ⟨rfl, C3⟩))
    all_goals go_wp2_with fail
    all_goals go_meet
    all_goals go_light
    all_goals refine ⟨rfl, ?_⟩
    all_goals (repeat (first | with_reducible exact Below.refl _ _ | with_reducible exact (Below.refl _ _).drew | with_reducible refine below_al ?_ _ | with_reducible refine Below.drew ?_ | refine below_step ?_ (by assumption)))
  case rest =>
    obtain ⟨rfl, HB⟩ := hcut
    have S := SS.out.next HB
    clear SS h0 h1 KS KT HB
    obtain ⟨⟨v0, v1, -⟩, ⟨r0, r1, -⟩, -⟩ := S.cel
    go_wp2_with fail
    refine (refRight_no S.lie.2.2.2.2.2.1 Z.out).mono ?_
    rintro e y9 ⟨rfl, rfl⟩
    go_wp2_with fail
    refine (told3_any (t := 1) S.lie.2.2.2.1 S.lie.2.2.1 (lim0 _) (lim0 _)).mono ?_
    clear v0 v1 r0 r1
    rintro e y30 ⟨rfl, B1⟩
    have S := S.next B1
    clear B1
    obtain ⟨⟨v0, v1, -⟩, ⟨r0, r1, -⟩, -⟩ := S.cel
    go_wp2_with fail
    refine (awake3 _).mono ?_
    rintro e y31 ⟨rfl, B1⟩
    have S := S.next B1
    clear B1
    go_wp2_with fail
    go_ret
    exact ⟨rfl, S.bl⟩
set_option maxHeartbeats 8000000 in
set_option maxRecDepth 100000 in
theorem bad2 {A D : Option Addr} {n c m k x : Nat} {a : Nat} {us : List Nat} {w : World} (h0 : Lim w A n c (limbs a)) (h1 : Lim w D m k us) (hx : x < 18446744073709551616) (z0 : n ≤ 70) (z1 : m ≤ 70) (la : ln a ≤ 64) (z : ¬ Nt us) : Calls Tryd.prog 6 #[.slice A n c, .slice D m k, .int .u64 (x : Int)] w fun e w' => e = .returned (.bool true) ∧ Below w.heap.size w w' := by
  have Z := Lib.hid z
  have LA := Lib.hid la
  have KZ : Hid (NoTwo (limbs a) us) := fun h => z h.2
  clear z la
  have i1 : ¬ (70 : Int) < n := by omega
  have i2 : ¬ (70 : Int) < m := by omega
  have HX := Lib.hid hx
  clear z0 z1 hx
  have S := ((Fs.start w).put h0).put h1
  clear h0 h1
  go_enter Tryd.func6, Tryd.ntmps6
  go_wp2_with fail
  refine (make_bad S.lie.2.1 S.lie.1 KZ.out).mono ?_
  rintro e y1 ⟨JA1, jn1, jc1, JB1, jm1, jk1, rfl, M1, M2, B1⟩
  have S := ((S.next B1).put M1).put M2
  clear M1 M2 B1
  have S := S.box (.slice JA1 jn1 jc1) (.slice JB1 jm1 jk1)
  generalize hv1 : y1.alloc (.cells #[.slice JA1 jn1 jc1, .slice JB1 jm1 jk1] 50) = v1 at *
  obtain ⟨⟨r0, r1, -⟩, -⟩ := S.cel
  go_wp2_with fail
  clear hv1
  generalize y1.heap.size = z1 at *
  refine (whole_r _ HX.out _).mono ?_
  clear r0 r1
  rintro e y2 ⟨JA2, jn2, jc2, JB2, jm2, jk2, rfl, M1, M2, B1⟩
  have S := ((S.next B1).put M1).put M2
  clear M1 M2 B1
  have S := S.box (.slice JA2 jn2 jc2) (.slice JB2 jm2 jk2)
  generalize hv2 : y2.alloc (.cells #[.slice JA2 jn2 jc2, .slice JB2 jm2 jk2] 50) = v2 at *
  obtain ⟨⟨v0, v1, -⟩, ⟨r0, r1, -⟩, -⟩ := S.cel
  go_upto_region 5 with fail
  clear hv2
  generalize y2.heap.size = z2 at *
  have SS := Lib.hid S
  have h0 := v0; have h1 := v1
  have KS : Hid (∀ (W : World) (G : Option Addr) (g h : Nat), Below v2.heap.size v2 W → Lim W G g h (limbs x) → Calls Tryd.prog 22 #[.slice JA2 jn2 jc2, .slice G g h] W fun e w' => e = .returned (.bool true) ∧ Below W.heap.size W w') := fun W G g h hb l => same_yes (S.lie.2.1.next hb) l
  have KT : Hid (∀ (W : World) (G : Option Addr) (g h : Nat), Below v2.heap.size v2 W → Lim W G g h (limbs 1) → Calls Tryd.prog 22 #[.slice JB2 jm2 jk2, .slice G g h] W fun e w' => e = .returned (.bool true) ∧ Below W.heap.size W w') := fun W G g h hb l => same_yes (S.lie.1.next hb) l
  clear v0 v1 r0 r1
  clear S
  go_cut [39] (fun s39 wx => s39 = .bool false ∧ Below v2.heap.size v2 wx)
  case first =>
    go_region_held3 (fun w' => w'.cell? ⟨z2, 0, none⟩ = some (.slice JA2 jn2 jc2) ∧ w'.cell? ⟨z2, 1, none⟩ = some (.slice JB2 jm2 jk2))
      ((refine ⟨?_, ?_⟩ <;> (repeat (first | with_reducible exact h0 | with_reducible exact h1 | with_reducible refine keep_drew ?_ | with_reducible refine keep_alloc ?_ _ | with_reducible refine keep_cell (by assumption) ?_))))
      (first
        | (go_at_call 19; refine (refOf_any _ HX.out _).mono ?_; rintro e r1 ⟨A1, n1, c1, rfl, L1, C1⟩)
        | (go_at_call 22; (with_reducible refine (KS.out _ _ _ _ ?_ ?_).mono ?_); (· repeat (first | with_reducible exact Below.refl _ _ | with_reducible exact (Below.refl _ _).drew | with_reducible refine below_al ?_ _ | with_reducible refine Below.drew ?_ | refine below_step ?_ (by assumption))); (· repeat (first | assumption | exact lim1 _ | exact lim1d _ | with_reducible refine Lim.alloc ?_ _ | refine Lim.next ?_ (by assumption))); rintro e r2 ⟨rfl, C2⟩)
        | (go_at_call 22; (with_reducible refine (KT.out _ _ _ _ ?_ ?_).mono ?_); (· repeat (first | with_reducible exact Below.refl _ _ | with_reducible exact (Below.refl _ _).drew | with_reducible refine below_al ?_ _ | with_reducible refine Below.drew ?_ | refine below_step ?_ (by assumption))); (· repeat (first | assumption | exact lim1 _ | exact lim1d _ | with_reducible refine Lim.alloc ?_ _ | refine Lim.next ?_ (by assumption))); rintro e r3 ⟨rfl, C3⟩))
    all_goals go_wp2_with fail
    all_goals go_meet
    all_goals go_light
    all_goals refine ⟨rfl, ?_⟩
    all_goals (repeat (first | with_reducible exact Below.refl _ _ | with_reducible exact (Below.refl _ _).drew | with_reducible refine below_al ?_ _ | with_reducible refine Below.drew ?_ | refine below_step ?_ (by assumption)))
  case rest =>
    obtain ⟨rfl, HB⟩ := hcut
    have S := SS.out.next HB
    clear SS h0 h1 KS KT HB
    obtain ⟨⟨v0, v1, -⟩, ⟨r0, r1, -⟩, -⟩ := S.cel
    go_wp2_with fail
    refine (refRight_yes S.lie.2.2.2.2.2.1 LA.out).mono ?_
    rintro e y9 ⟨rfl, rfl⟩
    go_wp2_with fail
    refine (refRight_no S.lie.2.2.2.2.1 Z.out).mono ?_
    rintro e y9 ⟨rfl, rfl⟩
    go_wp2_with fail
    refine (told3_any (t := 1) S.lie.2.2.2.1 S.lie.2.2.1 (lim0 _) (lim0 _)).mono ?_
    clear v0 v1 r0 r1
    rintro e y30 ⟨rfl, B1⟩
    have S := S.next B1
    clear B1
    obtain ⟨⟨v0, v1, -⟩, ⟨r0, r1, -⟩, -⟩ := S.cel
    go_wp2_with fail
    refine (awake3 _).mono ?_
    rintro e y31 ⟨rfl, B1⟩
    have S := S.next B1
    clear B1
    go_wp2_with fail
    go_ret
    exact ⟨rfl, S.bl⟩
set_option maxHeartbeats 8000000 in
set_option maxRecDepth 100000 in
theorem zero {A D : Option Addr} {n c m k x : Nat} {a b : Nat} {w : World} (h0 : Lim w A n c (limbs a)) (h1 : Lim w D m k (limbs b)) (hx : x < 18446744073709551616) (z0 : n ≤ 70) (z1 : m ≤ 70) (la : ln a ≤ 64) (z : b = 0) : Calls Tryd.prog 6 #[.slice A n c, .slice D m k, .int .u64 (x : Int)] w fun e w' => e = .returned (.bool true) ∧ Below w.heap.size w w' := by
  subst z
  obtain rfl : m = 0 := by have := h1.len; rw [limbs_length, ln_zero] at this; omega
  have LA := Lib.hid la
  have LB : Hid (ln 0 ≤ 64) := by show ln 0 ≤ 64; rw [ln_zero]; decide
  clear la
  have i1 : ¬ (70 : Int) < n := by omega
  have HX := Lib.hid hx
  clear z0 z1 hx
  have S := ((Fs.start w).put h0).put h1
  clear h0 h1
  go_enter Tryd.func6, Tryd.ntmps6
  go_wp2_with fail
  refine (make_zero S.lie.2.1 S.lie.1 LA.out).mono ?_
  rintro e y1 ⟨JA1, jn1, jc1, JB1, jm1, jk1, rfl, M1, M2, B1⟩
  have S := ((S.next B1).put M1).put M2
  clear M1 M2 B1
  have S := S.box (.slice JA1 jn1 jc1) (.slice JB1 jm1 jk1)
  generalize hv1 : y1.alloc (.cells #[.slice JA1 jn1 jc1, .slice JB1 jm1 jk1] 50) = v1 at *
  obtain ⟨⟨r0, r1, -⟩, -⟩ := S.cel
  go_wp2_with fail
  clear hv1
  generalize y1.heap.size = z1 at *
  refine (whole_r _ HX.out _).mono ?_
  clear r0 r1
  rintro e y2 ⟨JA2, jn2, jc2, JB2, jm2, jk2, rfl, M1, M2, B1⟩
  have S := ((S.next B1).put M1).put M2
  clear M1 M2 B1
  have S := S.box (.slice JA2 jn2 jc2) (.slice JB2 jm2 jk2)
  generalize hv2 : y2.alloc (.cells #[.slice JA2 jn2 jc2, .slice JB2 jm2 jk2] 50) = v2 at *
  obtain ⟨⟨v0, v1, -⟩, ⟨r0, r1, -⟩, -⟩ := S.cel
  go_upto_region 5 with fail
  clear hv2
  generalize y2.heap.size = z2 at *
  have SS := Lib.hid S
  have h0 := v0; have h1 := v1
  have KS : Hid (∀ (W : World) (G : Option Addr) (g h : Nat), Below v2.heap.size v2 W → Lim W G g h (limbs x) → Calls Tryd.prog 22 #[.slice JA2 jn2 jc2, .slice G g h] W fun e w' => e = .returned (.bool true) ∧ Below W.heap.size W w') := fun W G g h hb l => same_yes (S.lie.2.1.next hb) l
  have KT : Hid (∀ (W : World) (G : Option Addr) (g h : Nat), Below v2.heap.size v2 W → Lim W G g h (limbs 1) → Calls Tryd.prog 22 #[.slice JB2 jm2 jk2, .slice G g h] W fun e w' => e = .returned (.bool true) ∧ Below W.heap.size W w') := fun W G g h hb l => same_yes (S.lie.1.next hb) l
  clear v0 v1 r0 r1
  clear S
  go_cut [39] (fun s39 wx => s39 = .bool false ∧ Below v2.heap.size v2 wx)
  case first =>
    go_region_held3 (fun w' => w'.cell? ⟨z2, 0, none⟩ = some (.slice JA2 jn2 jc2) ∧ w'.cell? ⟨z2, 1, none⟩ = some (.slice JB2 jm2 jk2))
      ((refine ⟨?_, ?_⟩ <;> (repeat (first | with_reducible exact h0 | with_reducible exact h1 | with_reducible refine keep_drew ?_ | with_reducible refine keep_alloc ?_ _ | with_reducible refine keep_cell (by assumption) ?_))))
      (first
        | (go_at_call 19; refine (refOf_any _ HX.out _).mono ?_; rintro e r1 ⟨A1, n1, c1, rfl, L1, C1⟩)
        | (go_at_call 22; (with_reducible refine (KS.out _ _ _ _ ?_ ?_).mono ?_); (· repeat (first | with_reducible exact Below.refl _ _ | with_reducible exact (Below.refl _ _).drew | with_reducible refine below_al ?_ _ | with_reducible refine Below.drew ?_ | refine below_step ?_ (by assumption))); (· repeat (first | assumption | exact lim1 _ | exact lim1d _ | with_reducible refine Lim.alloc ?_ _ | refine Lim.next ?_ (by assumption))); rintro e r2 ⟨rfl, C2⟩)
        | (go_at_call 22; (with_reducible refine (KT.out _ _ _ _ ?_ ?_).mono ?_); (· repeat (first | with_reducible exact Below.refl _ _ | with_reducible exact (Below.refl _ _).drew | with_reducible refine below_al ?_ _ | with_reducible refine Below.drew ?_ | refine below_step ?_ (by assumption))); (· repeat (first | assumption | exact lim1 _ | exact lim1d _ | with_reducible refine Lim.alloc ?_ _ | refine Lim.next ?_ (by assumption))); rintro e r3 ⟨rfl, C3⟩))
    all_goals go_wp2_with fail
    all_goals go_meet
    all_goals go_light
    all_goals refine ⟨rfl, ?_⟩
    all_goals (repeat (first | with_reducible exact Below.refl _ _ | with_reducible exact (Below.refl _ _).drew | with_reducible refine below_al ?_ _ | with_reducible refine Below.drew ?_ | refine below_step ?_ (by assumption)))
  case rest =>
    obtain ⟨rfl, HB⟩ := hcut
    have S := SS.out.next HB
    clear SS h0 h1 KS KT HB
    obtain ⟨⟨v0, v1, -⟩, ⟨r0, r1, -⟩, -⟩ := S.cel
    go_wp2_with fail
    refine (refRight_yes S.lie.2.2.2.2.2.1 LA.out).mono ?_
    rintro e y9 ⟨rfl, rfl⟩
    go_wp2_with fail
    refine (refRight_yes S.lie.2.2.2.2.1 LB.out).mono ?_
    rintro e y9 ⟨rfl, rfl⟩
    go_wp2_with fail
    refine (told3_any (t := 7) S.lie.2.2.2.1 S.lie.2.2.1 (lim0 _) (lim0 _)).mono ?_
    clear v0 v1 r0 r1
    rintro e y30 ⟨rfl, B1⟩
    have S := S.next B1
    clear B1
    obtain ⟨⟨v0, v1, -⟩, ⟨r0, r1, -⟩, -⟩ := S.cel
    go_wp2_with fail
    refine (awake3 _).mono ?_
    rintro e y31 ⟨rfl, B1⟩
    have S := S.next B1
    clear B1
    go_wp2_with fail
    go_ret
    exact ⟨rfl, S.bl⟩
set_option maxHeartbeats 8000000 in
set_option maxRecDepth 100000 in
theorem yes {A D : Option Addr} {n c m k x : Nat} {a b : Nat} {w : World} (h0 : Lim w A n c (limbs a)) (h1 : Lim w D m k (limbs b)) (hx : x < 18446744073709551616) (z0 : n ≤ 70) (z1 : m ≤ 70) (la : ln a ≤ 64) (lb : ln b ≤ 64) (z : b ≠ 0) : Calls Tryd.prog 6 #[.slice A n c, .slice D m k, .int .u64 (x : Int)] w fun e w' => e = .returned (.bool true) ∧ Below w.heap.size w w' := by
  have i3 : ((m : Int) == 0) = false := by
    have := h1.len; rw [limbs_length] at this
    have := ln_pos z
    simp; omega
  obtain ⟨g, x1, x2, g0, e1, e2, er, b0, co, l1, l2⟩ := red_get a b z
  have FQ : Hid (frB (limbs x1) (limbs x2) = true) := frB_yes (Fq.fr ⟨Nat.le_trans l1 la, Nat.le_trans l2 lb, b0, co⟩)
  have KM : Hid (∀ (W : World) (A A' : Option Addr) (n c n' c' : Nat), Lim W A n c (limbs a) → Lim W A' n' c' (limbs b) → Calls Tryd.prog 47 #[.slice A n c, .slice A' n' c'] W fun e w' => RetA3 (x1, x2, 0) W e w') := fun W A A' n c n' c' h h' => er ▸ make_yes h h' la lb z
  have KD : Hid (∀ (W : World) (A A' : Option Addr) (n c n' c' : Nat), Lim W A n c (limbs a) → Lim W A' n' c' (limbs b) → Calls Tryd.prog 49 #[.slice A n c, .slice A' n' c'] W fun e w' => RetR x1 x2 W e w') := fun W A A' n c n' c' h h' => by
    have := reduce3_any h h' la lb z
    unfold red at er
    rwa [show a / Nat.gcd a b = x1 from congrArg Prod.fst er, show b / Nat.gcd a b = x2 from congrArg (fun t => t.2.1) er] at this
  have LA := Lib.hid la; have LB := Lib.hid lb
  clear la lb z g0 e1 e2 er b0 co l1 l2
  have i1 : ¬ (70 : Int) < n := by omega
  have i2 : ¬ (70 : Int) < m := by omega
  have HX := Lib.hid hx
  clear z0 z1 hx
  have S := ((Fs.start w).put h0).put h1
  clear h0 h1
  go_enter Tryd.func6, Tryd.ntmps6
  go_wp2_with fail
  refine (KM.out _ _ _ _ _ _ _ S.lie.2.1 S.lie.1).mono ?_
  rintro e y1 ⟨JA1, jn1, jc1, JB1, jm1, jk1, rfl, M1, M2, B1⟩
  have S := ((S.next B1).put M1).put M2
  clear M1 M2 B1
  have S := S.box (.slice JA1 jn1 jc1) (.slice JB1 jm1 jk1)
  generalize hv1 : y1.alloc (.cells #[.slice JA1 jn1 jc1, .slice JB1 jm1 jk1] 50) = v1 at *
  obtain ⟨⟨r0, r1, -⟩, -⟩ := S.cel
  go_wp2_with fail
  clear hv1
  generalize y1.heap.size = z1 at *
  refine (whole_r _ HX.out _).mono ?_
  clear r0 r1
  rintro e y2 ⟨JA2, jn2, jc2, JB2, jm2, jk2, rfl, M1, M2, B1⟩
  have S := ((S.next B1).put M1).put M2
  clear M1 M2 B1
  have S := S.box (.slice JA2 jn2 jc2) (.slice JB2 jm2 jk2)
  generalize hv2 : y2.alloc (.cells #[.slice JA2 jn2 jc2, .slice JB2 jm2 jk2] 50) = v2 at *
  obtain ⟨⟨v0, v1, -⟩, ⟨r0, r1, -⟩, -⟩ := S.cel
  go_upto_region 5 with fail
  clear hv2
  generalize y2.heap.size = z2 at *
  have SS := Lib.hid S
  have h0 := v0; have h1 := v1
  have KS : Hid (∀ (W : World) (G : Option Addr) (g h : Nat), Below v2.heap.size v2 W → Lim W G g h (limbs x) → Calls Tryd.prog 22 #[.slice JA2 jn2 jc2, .slice G g h] W fun e w' => e = .returned (.bool true) ∧ Below W.heap.size W w') := fun W G g h hb l => same_yes (S.lie.2.1.next hb) l
  have KT : Hid (∀ (W : World) (G : Option Addr) (g h : Nat), Below v2.heap.size v2 W → Lim W G g h (limbs 1) → Calls Tryd.prog 22 #[.slice JB2 jm2 jk2, .slice G g h] W fun e w' => e = .returned (.bool true) ∧ Below W.heap.size W w') := fun W G g h hb l => same_yes (S.lie.1.next hb) l
  clear v0 v1 r0 r1
  clear S
  go_cut [39] (fun s39 wx => s39 = .bool false ∧ Below v2.heap.size v2 wx)
  case first =>
    go_region_held3 (fun w' => w'.cell? ⟨z2, 0, none⟩ = some (.slice JA2 jn2 jc2) ∧ w'.cell? ⟨z2, 1, none⟩ = some (.slice JB2 jm2 jk2))
      ((refine ⟨?_, ?_⟩ <;> (repeat (first | with_reducible exact h0 | with_reducible exact h1 | with_reducible refine keep_drew ?_ | with_reducible refine keep_alloc ?_ _ | with_reducible refine keep_cell (by assumption) ?_))))
      (first
        | (go_at_call 19; refine (refOf_any _ HX.out _).mono ?_; rintro e r1 ⟨A1, n1, c1, rfl, L1, C1⟩)
        | (go_at_call 22; (with_reducible refine (KS.out _ _ _ _ ?_ ?_).mono ?_); (· repeat (first | with_reducible exact Below.refl _ _ | with_reducible exact (Below.refl _ _).drew | with_reducible refine below_al ?_ _ | with_reducible refine Below.drew ?_ | refine below_step ?_ (by assumption))); (· repeat (first | assumption | exact lim1 _ | exact lim1d _ | with_reducible refine Lim.alloc ?_ _ | refine Lim.next ?_ (by assumption))); rintro e r2 ⟨rfl, C2⟩)
        | (go_at_call 22; (with_reducible refine (KT.out _ _ _ _ ?_ ?_).mono ?_); (· repeat (first | with_reducible exact Below.refl _ _ | with_reducible exact (Below.refl _ _).drew | with_reducible refine below_al ?_ _ | with_reducible refine Below.drew ?_ | refine below_step ?_ (by assumption))); (· repeat (first | assumption | exact lim1 _ | exact lim1d _ | with_reducible refine Lim.alloc ?_ _ | refine Lim.next ?_ (by assumption))); rintro e r3 ⟨rfl, C3⟩))
    all_goals go_wp2_with fail
    all_goals go_meet
    all_goals go_light
    all_goals refine ⟨rfl, ?_⟩
    all_goals (repeat (first | with_reducible exact Below.refl _ _ | with_reducible exact (Below.refl _ _).drew | with_reducible refine below_al ?_ _ | with_reducible refine Below.drew ?_ | refine below_step ?_ (by assumption)))
  case rest =>
    obtain ⟨rfl, HB⟩ := hcut
    have S := SS.out.next HB
    clear SS h0 h1 KS KT HB
    obtain ⟨⟨v0, v1, -⟩, ⟨r0, r1, -⟩, -⟩ := S.cel
    go_wp2_with fail
    refine (refRight_yes S.lie.2.2.2.2.2.1 LA.out).mono ?_
    rintro e y9 ⟨rfl, rfl⟩
    go_wp2_with fail
    refine (refRight_yes S.lie.2.2.2.2.1 LB.out).mono ?_
    rintro e y9 ⟨rfl, rfl⟩
    go_upto_region 11 with fail
    have SS := Lib.hid S
    have KR := Lib.hid (fun (W : World) (h : Below _ _ W) => KD.out W _ _ _ _ _ _ (S.lie.2.2.2.2.2.1.next h) (S.lie.2.2.2.2.1.next h))
    have KT := Lib.hid (fun (W : World) (B B' : Option Addr) (g h g' h' : Nat) (hb : Below _ _ W) (l : Lim W B g h (limbs x1)) (l' : Lim W B' g' h' (limbs x2)) => told3_any (t := 0) (S.lie.2.2.2.1.next hb) (S.lie.2.2.1.next hb) l l')
    have KQ := Lib.hid (fun (W : World) (h : Below _ _ W) => ratRight_any (S.lie.2.2.2.1.next h) (S.lie.2.2.1.next h))
    rw [FQ.out] at KQ
    have CC := Lib.hid (fun (W : World) (h : Below _ _ W) => (⟨keep_cell h r0, keep_cell h r1⟩ : W.cell? ⟨z1, 0, none⟩ = some (.slice JA1 jn1 jc1) ∧ W.cell? ⟨z1, 1, none⟩ = some (.slice JB1 jm1 jk1)))
    clear v0 v1 r0 r1
    clear S KM KD FQ LA LB
    go_region_held3 (fun W => W.cell? ⟨z1, 0, none⟩ = some (.slice JA1 jn1 jc1) ∧ W.cell? ⟨z1, 1, none⟩ = some (.slice JB1 jm1 jk1))
      ((refine CC.out _ ?_; repeat (first | with_reducible exact Below.refl _ _ | with_reducible exact (Below.refl _ _).drew | refine below_step ?_ (by assumption))))
      (first
        | (go_at_call 49; (with_reducible refine (KR.out _ ?_).mono ?_); (· repeat (first | with_reducible exact Below.refl _ _ | with_reducible exact (Below.refl _ _).drew | with_reducible refine below_al ?_ _ | with_reducible refine Below.drew ?_ | refine below_step ?_ (by assumption))); rintro e s1 ⟨A1, n1, c1, A2, n2, c2, rfl, L1, L2, C1⟩)
        | (go_at_call 42; (with_reducible refine (KT.out _ _ _ _ _ _ _ ?_ ?_ ?_).mono ?_); (· repeat (first | with_reducible exact Below.refl _ _ | with_reducible exact (Below.refl _ _).drew | with_reducible refine below_al ?_ _ | with_reducible refine Below.drew ?_ | refine below_step ?_ (by assumption))); (· repeat (first | assumption | exact lim1 _ | exact lim1d _ | with_reducible refine Lim.alloc ?_ _ | refine Lim.next ?_ (by assumption))); (· repeat (first | assumption | exact lim1 _ | exact lim1d _ | with_reducible refine Lim.alloc ?_ _ | refine Lim.next ?_ (by assumption))); rintro e s2 ⟨rfl, C2⟩)
        | (go_at_call 36; (with_reducible refine (KQ.out _ ?_).mono ?_); (· repeat (first | with_reducible exact Below.refl _ _ | with_reducible exact (Below.refl _ _).drew | with_reducible refine below_al ?_ _ | with_reducible refine Below.drew ?_ | refine below_step ?_ (by assumption))); rintro e s3 ⟨rfl, C3⟩)
        | (go_at_call 34; refine (awake3 _).mono ?_; rintro e s4 ⟨rfl, C4⟩))
    all_goals go_wp2_with fail
    all_goals go_ret
    all_goals exact ⟨rfl, ((((SS.out.drew.next C1).next C2).next C3).next C4).bl⟩
theorem walk {A D : Option Addr} {n c m k x : Nat} {xs us : List Nat} {w : World} (h0 : Lim w A n c xs) (h1 : Lim w D m k us) (hx : x < 18446744073709551616) : Calls Tryd.prog 6 #[.slice A n c, .slice D m k, .int .u64 (x : Int)] w fun e w' => e = .returned (.bool true) ∧ Below w.heap.size w w' := by
  by_cases z0 : n ≤ 70
  · by_cases z1 : m ≤ 70
    · by_cases a : Nt xs
      · obtain ⟨l, la⟩ := nt_lim h0 a
        by_cases b : Nt us
        · obtain ⟨l', lb⟩ := nt_lim h1 b
          by_cases z : val us = 0
          · exact zero l l' hx z0 z1 la z
          · exact yes l l' hx z0 z1 la lb z
        · exact bad2 l h1 hx z0 z1 la b
      · exact bad1 h0 h1 hx z0 z1 a
    · exact long2 h0 h1 hx z0 (Nat.lt_of_not_le z1)
  · exact long1 h0 h1 hx (Nat.lt_of_not_le z0)

set_option maxRecDepth 100000 in
theorem lifted (os : Os) (started : os.Started) (H : Type) (enc : TypeId × Value → H) :
    ReturnsInHanded {} Tryd.checked os 6 .any (fun w args => (Rows.ratMakesSpec.pre enc Tryd.prog Tryd.f6 Rows.ratMakesRow.domain false w args ∧ laidMetH Tryd.prog Rows.ratMakesRow.laid w) ∧ sizedMet enc Tryd.prog Tryd.f6 (OpenSpec.ofChange Rows.ratMakesSpec) false w args)
      (Rows.ratMakesSpec.post enc Tryd.prog Tryd.f6 false true false false) := by
  refine returnsInHanded_of_change_and (C := Tryd.checked) (X := fun w _ => laidMetH Tryd.prog Rows.ratMakesRow.laid w) (fun _ _ _ hh h => h.of_heap hh) own started (by kernel_rfl) Tryd.func6
    (ChangeSpec.witness_shaped (enc := enc) (C := Tryd.checked) (os := os) (X := fun w _ => laidMetH Tryd.prog Rows.ratMakesRow.laid w) false (World.laidAll Tryd.prog os Rows.ratMakesRow.laid) #[.slice none 0 0, .slice none 0 0, .int .u64 0] 8 (World.laidAll_os _ _ _)
      (World.shaped_of_ZipB (by kernel_rfl) (by kernel_rfl)) (by kernel_rfl) (by kernel_rfl) (by kernel_rfl)
      (by rw [MakeChecks.laidMetH_plain _ _ _ (by kernel_rfl)]; exact laidMet_laidAll _ (by kernel_rfl) (by kernel_rfl))) ?_
  intro W base args ds gs before hval0 hW _ _ _ _
  have hval : ∀ (j : Nat) t v, Tryd.f6.params[j]? = some t → args[j]? = some v → Value.okWide Tryd.prog W .any base t v := hval0
  have hW' := hW
  obtain ⟨p, q, hA0, hV, rfl, _, _⟩ := hW
  have hA : DataW.TrodAll enc Tryd.prog W 0 (fun _ => true) true Tryd.f6.params.toList args.toList ds p := hA0
  rw [Tryd.params6] at hA hval
  obtain ⟨v0, v1, v2, d0, d1, d2, p0, p1, p2, rfl, rfl, rfl, h0t, h1t, h2t⟩ := trodAll_three hA
  obtain ⟨rfl, rfl⟩ := trodVars_none hV
  obtain ⟨B0, b0, c0, xs0, rfl, h0⟩ := open_nat (hval 0 23 v0 rfl rfl) h0t
  obtain ⟨B1, b1, c1, xs1, rfl, h1⟩ := open_nat (hval 1 23 v1 rfl rfl) h1t
  obtain ⟨x2, rfl, h2⟩ := open_word (hval 2 24 v2 rfl rfl) h2t
  clear hA0 hval0
  simp only [List.append_nil] at hW'
  have hlt : ∀ x ∈ p0 ++ p1 ++ p2, x.block < W.heap.size := fun x hx => by simpa using hW'.lt x (by simpa using hx)
  refine (walk h0 h1 h2).mono fun e W' ⟨he, hbl⟩ => ?_
  subst he
  refine ⟨_, rfl, post_args hW' (fun _ _ _ => trodAll_mk1 (shut_bool Tryd.underlying4 _)) ?_ (fun _ => rfl) hbl⟩
  have t0 := Below.trod laidOut readable typed h0t hbl (fun x hx => hlt x (List.mem_append_left _ (List.mem_append_left _ hx)))
  have t1 := Below.trod laidOut readable typed h1t hbl (fun x hx => hlt x (List.mem_append_left _ (List.mem_append_right _ hx)))
  have t2 := Below.trod laidOut readable_word typed_word h2t hbl (fun x hx => hlt x (List.mem_append_right _ hx))
  exact (List.append_assoc p0 p1 p2) ▸ trodAll_mk3 t0 t1 t2

theorem holds : Rows.RatMakesSaid :=
  OpenClaim.holds_of_wide 6 Tryd.f6 rfl rfl rfl rfl rfl rfl rfl ⟨rfl, rfl, rfl, rfl, rfl⟩ rfl rfl rfl rfl rfl (by kernel_rfl) Tryd.func6 (by kernel_rfl)
    (of_decide_eq_true (by kernel_rfl)) (by unfold Func.isWrapper; first | (rw [if_pos (by decide +kernel)]; kernel_rfl) | (rw [if_neg (by decide +kernel)]; exact ⟨rfl, rfl⟩))
    (fun os started H enc _ => lifted os started H enc)
theorem proved : Rows.RatMakesCardSaid :=
  Claim7.holds_tied_plain_at .later [] [.data, .pinned] true (true, "7bac054c24a4a5cdd971a304af75554519beee4c5270e6492823ef9c09dcec6f") false
    holds (fun _ h => by cases h) (by kernel_rfl) (fun _ h => by cases h) ratMakes_row_tie rfl ⟨rfl, rfl⟩ (by kernel_rfl) rfl
    (fun f fn hf hfn => by
      obtain rfl : f = 6 := Option.some.inj ((show Tryd.prog.funcNamed "samphire/samphirelaw03.RatMakes" = some 6 by kernel_rfl).symm.trans hf) |>.symm
      obtain rfl : fn = Tryd.f6 := (Option.some.inj (Tryd.func6.symm.trans hfn)).symm
      exact ⟨by kernel_rfl, fun j t ht => by
        rw [Tryd.params6] at ht
        rcases j with _ | _ | _ | j
        · obtain rfl : t = 23 := by simpa using ht.symm
          exact (show Tryd.prog.wantsStandIn 23 = false by kernel_rfl)
        · obtain rfl : t = 23 := by simpa using ht.symm
          exact (show Tryd.prog.wantsStandIn 23 = false by kernel_rfl)
        · obtain rfl : t = 24 := by simpa using ht.symm
          exact (show Tryd.prog.wantsStandIn 24 = false by kernel_rfl)
        · simp at ht⟩)
    (by kernel_rfl)
#print axioms proved
end Go.Proofs.YtnacokogihanoaaDoor.ratMakes
