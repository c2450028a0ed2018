/- For every two numbers of 128 bits the law WideTells answers true: the order, the sum, the difference, the product, and the quotient are what the document says. No condition. -/
import Derived.Test.YtgafejolijjiiaaBase
import Derived.Test.YtgafejolijjiiaaRefE
import Derived.Test.YtgafejolijjiiaaRefH
namespace Go.Proofs.Ytgafejolijjiiaa.wideTells
open Go.ChangeShapes Go.WideShapes Go.ChangeAt Go.RowKit
open Go.Proofs.Ytgafejolijjiiaa
set_option linter.unusedVariables false
set_option linter.unusedSimpArgs false

/-- What a call of two numbers tells: a number, and whether it is one. -/
def Tells (f : FuncId) (x y z : Nat) (o : Bool) : Prop := ∀ w, Calls Try.prog f #[U x, U y] w fun e w' => e = .returned (.tuple #[U z, .bool o]) ∧ Below w.heap.size w w'
/-- .. two numbers. -/
def Splits (f : FuncId) (x y q r : Nat) (o : Bool) : Prop := ∀ w, Calls Try.prog f #[U x, U y] w fun e w' => e = .returned (.tuple #[U q, U r, .bool o]) ∧ Below w.heap.size w w'

set_option maxHeartbeats 8000000 in
set_option maxRecDepth 100000 in
theorem core (a b X Y M Q R F : Nat) (c : Int) (o1 o2 o3 o4 o5 : Bool) (k1 : Tells 11 a b X o1) (k2 : Tells 12 a b X o1) (k3 : Tells 13 a b Y o2) (k4 : Tells 14 a b Y o2)
    (k5 : Hid (∀ w, Calls Try.prog 15 #[U a, U b] w fun e w' => e = .returned (.int .i64 c) ∧ Below w.heap.size w w')) (k6 : Hid (∀ w, Calls Try.prog 16 #[U a, U b] w fun e w' => e = .returned (.int .i64 c) ∧ Below w.heap.size w w'))
    (k7 : Tells 17 a b M o3) (k8 : Tells 18 a b M o3) (k9 : Splits 19 a b Q R o4) (k10 : Splits 20 a b Q R o4)
    (k11 : Hid (∀ w, Calls Try.prog 18 #[.agg #[.int .u64 0, .int .u64 (lo a)], .agg #[.int .u64 0, .int .u64 (hi b)]] w fun e w' => e = .returned (.tuple #[U F, .bool o5]) ∧ Below w.heap.size w w'))
    (k12 : Hid (∀ w, Calls Try.prog 21 #[.int .u64 (lo a), .int .u64 (hi b)] w fun e w' => e = .returned (U F) ∧ Below w.heap.size w w'))
    (k13 : Hid (∀ w, Calls Try.prog 22 #[.int .u64 (lo a)] w fun e w' => e = .returned (.agg #[.int .u64 0, .int .u64 (lo a)]) ∧ Below w.heap.size w w')) (w : World) :
    Calls Try.prog 3 #[U a, U b] w fun e w' => e = .returned (.bool true) ∧ Below w.heap.size w w' := by
  go_enter Try.func3, Try.ntmps3
  go_upto_region 1 with fail
  have S := ((St.start w).box a).box b
  generalize (w.alloc (.cells #[.int .u64 (hi a), .int .u64 (lo a)] 24)).alloc (.cells #[.int .u64 (hi b), .int .u64 (lo b)] 24) = w0 at *
  simp only [World.size_alloc] at S
  obtain ⟨b0, b1, a0, a1, _⟩ := S.lie
  go_wp2_with fail
  refine (k1 _).mono ?_
  rintro e w1 ⟨rfl, hb1⟩
  go_upto_region 2 with fail
  have S1 := (S.next hb1).box X
  generalize w1.alloc (.cells #[.int .u64 (hi X), .int .u64 (lo X)] 24) = x1 at *
  generalize w1.heap.size = B1 at *
  clear S hb1 b0 b1 a0 a1
  obtain ⟨_, _, b0, b1, a0, a1, _⟩ := S1.lie
  go_wp2_with fail
  refine (k2 _).mono ?_
  rintro e w2 ⟨rfl, hb2⟩
  go_upto_region 3 with fail
  have S2 := (S1.next hb2).box X
  generalize w2.alloc (.cells #[.int .u64 (hi X), .int .u64 (lo X)] 24) = x2 at *
  generalize w2.heap.size = B2 at *
  clear S1 hb2 b0 b1 a0 a1
  obtain ⟨_, _, _, _, b0, b1, a0, a1, _⟩ := S2.lie
  go_wp2_with fail
  refine (k3 _).mono ?_
  rintro e w3 ⟨rfl, hb3⟩
  go_upto_region 4 with fail
  have S3 := (S2.next hb3).box Y
  generalize w3.alloc (.cells #[.int .u64 (hi Y), .int .u64 (lo Y)] 24) = x3 at *
  generalize w3.heap.size = B3 at *
  clear S2 hb3 b0 b1 a0 a1
  obtain ⟨_, _, _, _, _, _, b0, b1, a0, a1, _⟩ := S3.lie
  go_wp2_with fail
  refine (k4 _).mono ?_
  rintro e w4 ⟨rfl, hb4⟩
  go_upto_region 5 with fail
  have S4 := (S3.next hb4).box Y
  generalize w4.alloc (.cells #[.int .u64 (hi Y), .int .u64 (lo Y)] 24) = x4 at *
  generalize w4.heap.size = B4 at *
  clear S3 hb4 b0 b1 a0 a1
  obtain ⟨e0, e1, d0, d1, t0, t1, s0, s1, b0, b1, a0, a1, _⟩ := S4.lie
  go_cut [75] (fun s75 wx => s75 = .bool false ∧ St w [(w.heap.size + 1, b), (w.heap.size, a)] wx)
  case first =>
    have h1 : (hi X == hi X) = true := by simp
    have h2 : (lo X == lo X) = true := by simp
    have h3 : (hi Y == hi Y) = true := by simp
    have h4 : (lo Y == lo Y) = true := by simp
    clear k1 k2 k3 k4 k7 k8 k9 k10 k11 k12 k13
    go_region_held3 (fun w' => w'.cell? ⟨w.heap.size, 0, none⟩ = some (.int .u64 (hi a)) ∧ w'.cell? ⟨w.heap.size, 1, none⟩ = some (.int .u64 (lo a)) ∧ w'.cell? ⟨w.heap.size + 1, 0, none⟩ = some (.int .u64 (hi b)) ∧ w'.cell? ⟨w.heap.size + 1, 1, none⟩ = some (.int .u64 (lo b)) ∧ w'.cell? ⟨B1, 0, none⟩ = some (.int .u64 (hi X)) ∧ w'.cell? ⟨B1, 1, none⟩ = some (.int .u64 (lo X)) ∧ w'.cell? ⟨B2, 0, none⟩ = some (.int .u64 (hi X)) ∧ w'.cell? ⟨B2, 1, none⟩ = some (.int .u64 (lo X)) ∧ w'.cell? ⟨B3, 0, none⟩ = some (.int .u64 (hi Y)) ∧ w'.cell? ⟨B3, 1, none⟩ = some (.int .u64 (lo Y)) ∧ w'.cell? ⟨B4, 0, none⟩ = some (.int .u64 (hi Y)) ∧ w'.cell? ⟨B4, 1, none⟩ = some (.int .u64 (lo Y)))
      ((refine ⟨?_, ?_, ?_, ?_, ?_, ?_, ?_, ?_, ?_, ?_, ?_, ?_⟩ <;> (repeat (first | with_reducible exact a0 | with_reducible exact a1 | with_reducible exact b0 | with_reducible exact b1 | with_reducible exact s0 | with_reducible exact s1 | with_reducible exact t0 | with_reducible exact t1 | with_reducible exact d0 | with_reducible exact d1 | with_reducible exact e0 | with_reducible exact e1 | with_reducible refine keep_drew ?_ | with_reducible refine keep_cell (by assumption) ?_))))
      (first
        | (go_at_call 15; refine (k5.out _).mono ?_; rintro e y1 ⟨rfl, hy1⟩)
        | (go_at_call 16; refine (k6.out _).mono ?_; rintro e y2 ⟨rfl, hy2⟩))
    all_goals go_wp2_with fail
    all_goals go_meet
    all_goals go_light
    have S6 := (S4.drew.next hy1).next hy2
    obtain ⟨_, _, _, _, _, _, _, _, p0, p1, p2, p3, _⟩ := S6.lie
    exact ⟨rfl, ⟨p0, p1, p2, p3, trivial⟩, S6.bl⟩
  case rest =>
    obtain ⟨rfl, S5⟩ := hcut
    clear S4 e0 e1 d0 d1 t0 t1 s0 s1 b0 b1 a0 a1 k1 k2 k3 k4 k5 k6
    obtain ⟨b0, b1, a0, a1, _⟩ := S5.lie
    go_wp2_with fail
    refine (k7 _).mono ?_
    rintro e w6 ⟨rfl, hb6⟩
    go_upto_region 8 with fail
    have S6 := (S5.next hb6).box M
    generalize w6.alloc (.cells #[.int .u64 (hi M), .int .u64 (lo M)] 24) = x6 at *
    generalize w6.heap.size = B6 at *
    clear S5 hb6 b0 b1 a0 a1
    obtain ⟨_, _, b0, b1, a0, a1, _⟩ := S6.lie
    go_wp2_with fail
    refine (k8 _).mono ?_
    rintro e w7 ⟨rfl, hb7⟩
    go_upto_region 9 with fail
    have S7 := (S6.next hb7).box M
    generalize w7.alloc (.cells #[.int .u64 (hi M), .int .u64 (lo M)] 24) = x7 at *
    generalize w7.heap.size = B7 at *
    clear S6 hb7 b0 b1 a0 a1
    obtain ⟨_, _, _, _, b0, b1, a0, a1, _⟩ := S7.lie
    go_wp2_with fail
    refine (k9 _).mono ?_
    rintro e w8 ⟨rfl, hb8⟩
    go_upto_region 10 with fail
    have S8 := ((S7.next hb8).box Q).box R
    simp only [World.size_alloc] at S8
    generalize (w8.alloc (.cells #[.int .u64 (hi Q), .int .u64 (lo Q)] 24)).alloc (.cells #[.int .u64 (hi R), .int .u64 (lo R)] 24) = x8 at *
    generalize w8.heap.size = B8 at *
    clear S7 hb8 b0 b1 a0 a1
    obtain ⟨_, _, _, _, _, _, _, _, b0, b1, a0, a1, _⟩ := S8.lie
    go_wp2_with fail
    refine (k10 _).mono ?_
    rintro e w9 ⟨rfl, hb9⟩
    go_upto_region 11 with fail
    have S9 := ((S8.next hb9).box Q).box R
    simp only [World.size_alloc] at S9
    generalize (w9.alloc (.cells #[.int .u64 (hi Q), .int .u64 (lo Q)] 24)).alloc (.cells #[.int .u64 (hi R), .int .u64 (lo R)] 24) = x9 at *
    generalize w9.heap.size = B9 at *
    clear S8 hb9 b0 b1 a0 a1
    obtain ⟨_, _, _, _, _, _, _, _, _, _, _, _, b0, b1, a0, a1, _⟩ := S9.lie
    go_wp2_with fail
    refine (k11.out _).mono ?_
    rintro e w10 ⟨rfl, hb10⟩
    go_upto_region 12 with fail
    have S10 := (S9.next hb10).box F
    generalize w10.alloc (.cells #[.int .u64 (hi F), .int .u64 (lo F)] 24) = x10 at *
    generalize w10.heap.size = B10 at *
    clear S9 hb10 b0 b1 a0 a1
    obtain ⟨f0, f1, y0, y1, v0, v1, r0, r1, q0, q1, n0, n1, m0, m1, b0, b1, a0, a1, _⟩ := S10.lie
    clear k7 k8 k9 k10 k11
    go_region_held3 (fun w' => w'.cell? ⟨w.heap.size, 0, none⟩ = some (.int .u64 (hi a)) ∧ w'.cell? ⟨w.heap.size, 1, none⟩ = some (.int .u64 (lo a)) ∧ w'.cell? ⟨w.heap.size + 1, 0, none⟩ = some (.int .u64 (hi b)) ∧ w'.cell? ⟨w.heap.size + 1, 1, none⟩ = some (.int .u64 (lo b)) ∧ w'.cell? ⟨B6, 0, none⟩ = some (.int .u64 (hi M)) ∧ w'.cell? ⟨B6, 1, none⟩ = some (.int .u64 (lo M)) ∧ w'.cell? ⟨B7, 0, none⟩ = some (.int .u64 (hi M)) ∧ w'.cell? ⟨B7, 1, none⟩ = some (.int .u64 (lo M)) ∧ w'.cell? ⟨B8, 0, none⟩ = some (.int .u64 (hi Q)) ∧ w'.cell? ⟨B8, 1, none⟩ = some (.int .u64 (lo Q)) ∧ w'.cell? ⟨B8 + 1, 0, none⟩ = some (.int .u64 (hi R)) ∧ w'.cell? ⟨B8 + 1, 1, none⟩ = some (.int .u64 (lo R)) ∧ w'.cell? ⟨B9, 0, none⟩ = some (.int .u64 (hi Q)) ∧ w'.cell? ⟨B9, 1, none⟩ = some (.int .u64 (lo Q)) ∧ w'.cell? ⟨B9 + 1, 0, none⟩ = some (.int .u64 (hi R)) ∧ w'.cell? ⟨B9 + 1, 1, none⟩ = some (.int .u64 (lo R)) ∧ w'.cell? ⟨B10, 0, none⟩ = some (.int .u64 (hi F)) ∧ w'.cell? ⟨B10, 1, none⟩ = some (.int .u64 (lo F)))
      ((refine ⟨?_, ?_, ?_, ?_, ?_, ?_, ?_, ?_, ?_, ?_, ?_, ?_, ?_, ?_, ?_, ?_, ?_, ?_⟩ <;> (repeat (first | with_reducible exact a0 | with_reducible exact a1 | with_reducible exact b0 | with_reducible exact b1 | with_reducible exact m0 | with_reducible exact m1 | with_reducible exact n0 | with_reducible exact n1 | with_reducible exact q0 | with_reducible exact q1 | with_reducible exact r0 | with_reducible exact r1 | with_reducible exact v0 | with_reducible exact v1 | with_reducible exact y0 | with_reducible exact y1 | with_reducible exact f0 | with_reducible exact f1 | with_reducible refine keep_drew ?_ | with_reducible refine keep_cell (by assumption) ?_))))
      (first
        | (go_at_call 21; refine (k12.out _).mono ?_; rintro e z1 ⟨rfl, hz1⟩)
        | (go_at_call 22; refine (k13.out _).mono ?_; rintro e z2 ⟨rfl, hz2⟩)
        | (go_at_call 23; refine (awake_any _).mono ?_; rintro e z3 ⟨rfl, hz3⟩))
    all_goals go_wp2_with fail
    all_goals go_light
    go_ret
    exact ⟨rfl, below_step (below_step (below_step S10.bl.drew hz1) hz2) hz3⟩

theorem pack {x : Int} (h : Word x) : Value.agg #[.int .u64 0, .int .u64 x] = U x.toNat := by
  have h1 := h.nn; have h2 := h.lt
  have l : x.toNat < 18446744073709551616 := by omega
  refine U_of ?_ ?_
  · rw [hi_small l]
  · rw [lo_small l]; omega
theorem walk (a b : Nat) (ha : Fits a) (hb : Fits b) (w : World) : Calls Try.prog 3 #[U a, U b] w fun e w' => e = .returned (.bool true) ∧ Below w.heap.size w w' := by
  obtain ⟨Y, o2, k3, k4⟩ : ∃ Y o2, Tells 13 a b Y o2 ∧ Tells 14 a b Y o2 := by
    by_cases h : b ≤ a
    · exact ⟨a - b, true, sub_bel a b ha hb h, refSub_fits a b ha hb h⟩
    · exact ⟨0, false, fun w => (sub_under a b hb h w).mono fun _ _ ⟨he, _, _, _, hw⟩ => ⟨he, by subst hw; exact three_bel _ _ _ _⟩, refSub_under a b ha hb h⟩
  obtain ⟨Q, R, o4, k9, k10⟩ : ∃ Q R o4, Splits 19 a b Q R o4 ∧ Splits 20 a b Q R o4 := by
    by_cases h : b = 0
    · subst h
      exact ⟨0, 0, false, div_zero a, refDiv_zero a⟩
    · exact ⟨a / b, a % b, true, div_any a b ha hb h, refDiv_any a b ha hb h⟩
  have wl := word_lo a; have wh := word_hi hb
  have e1 := pack wl
  have e2 := pack wh
  refine core a b (cut (a + b)) Y (cut (a * b)) Q R ((lo a).toNat * (hi b).toNat) (sgn a b) (fitsB (a + b)) o2 (fitsB (a * b)) o4 (fitsB ((lo a).toNat * (hi b).toNat)) (add_bel a b ha hb) (refAdd_any a b ha hb) k3 k4 (cmp_bel a b) (refCmp_any a b ha hb)
    (mul_any a b ha hb) (refMul_any a b ha hb) k9 k10 ?_ (full_bel _ _ wl wh) ?_ w
  · intro w
    have k := refMul_any (lo a).toNat (hi b).toNat (fits_word _ wl) (fits_word _ wh) w
    have f : Fits ((lo a).toNat * (hi b).toNat) := by
      have h1 : (lo a).toNat ≤ 18446744073709551615 := by have := wl.lt; have := wl.nn; omega
      have h2 : (hi b).toNat ≤ 18446744073709551615 := by have := wh.lt; have := wh.nn; omega
      have := Nat.mul_le_mul h1 h2
      unfold Fits; omega
    rw [cut_yes f] at k
    rw [e1, e2]
    exact k
  · intro w
    rw [e1]
    exact of_bel _ wl w

set_option maxRecDepth 100000 in
theorem lifted (os : Os) (started : os.Started) (H : Type) (enc : TypeId × Value → H) :
    ReturnsInHanded {} Try.checked os 3 .any (Rows.wideTellsSpec.pre6 enc Try.prog Try.f3 Rows.wideTellsRow.domain false) (Rows.wideTellsSpec.post enc Try.prog Try.f3 false true false false) := by
  refine returnsInHanded_of_change (C := Try.checked) own started (by kernel_rfl) Try.func3
    (ChangeSpec.witness6 (enc := enc) (C := Try.checked) false ⟨#[], #[.agg #[.int .u64 0, .int .u64 0], .agg #[.int .u64 0, .int .u64 0]], []⟩ 8 (by kernel_rfl) (by kernel_rfl) (by kernel_rfl) (by kernel_rfl)) ?_
  intro W base args ds gs before hval0 hW hcnd _
  have hval : ∀ (j : Nat) t v, Try.f3.params[j]? = some t → args[j]? = some v → Value.okWide Try.prog W .any base t v := hval0
  have hW' := hW
  obtain ⟨p, q, hA0, hV, rfl, hfz, hnd⟩ := hW
  have hA : DataW.TrodAll enc Try.prog W 0 (fun _ => true) true Try.f3.params.toList args.toList ds p := hA0
  rw [Try.params3] at hA hval
  obtain ⟨v0, v1, d0, d1, p0, p1, rfl, rfl, rfl, h0, h1⟩ := trodAll_two hA
  obtain ⟨rfl, rfl⟩ := trodVars_none hV
  obtain ⟨a, ha, rfl, rfl, rfl, s0⟩ := open_num (hval 0 24 v0 rfl rfl) h0
  obtain ⟨b, hb, rfl, rfl, rfl, s1⟩ := open_num (hval 1 24 v1 rfl rfl) h1
  clear hA0 hval0
  simp only [List.append_nil] at hW'
  refine (walk a b ha hb W).mono fun e W' ⟨he, hbe⟩ => ?_
  subst he
  exact ⟨_, rfl, post_plain hW' (fun _ _ _ => trodAll_mk1 (shut_bool Try.underlying4 _)) (fun sp => trodAll_mk2 (s0 _ _) (s1 _ _)) (fun _ => rfl) hbe⟩

theorem proved : Rows.WideTellsSaid :=
  OpenClaim.holds_of_wide 3 Try.f3 rfl rfl rfl rfl rfl rfl rfl ⟨rfl, rfl, rfl, rfl, rfl⟩ rfl rfl rfl rfl rfl (by kernel_rfl) Try.func3 (by kernel_rfl)
    (of_decide_eq_true (by kernel_rfl)) (by unfold Func.isWrapper; first | (rw [if_pos (by decide +kernel)]; kernel_rfl) | (rw [if_neg (by decide +kernel)]; exact ⟨rfl, rfl⟩))
    (fun os started H enc _ => lifted os started H enc)
#print axioms proved
end Go.Proofs.Ytgafejolijjiiaa.wideTells
