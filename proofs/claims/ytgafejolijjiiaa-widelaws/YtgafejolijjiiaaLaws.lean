/- For every three numbers of 128 bits the law WideLaws answers true: sums and products go in any order; a product by a sum is the sum of products, where nothing is too great. No condition. -/
import Derived.Test.YtgafejolijjiiaaBase
namespace Go.Proofs.Ytgafejolijjiiaa.wideLaws
open Go.ChangeShapes Go.WideShapes Go.ChangeAt Go.RowKit
open Go.Proofs.Ytgafejolijjiiaa
set_option linter.unusedVariables false
set_option linter.unusedSimpArgs false

/-- What a call of two numbers tells: a number, and whether it is one. -/
def Tells (f : FuncId) (x y z : Nat) (o : Bool) : Prop := ∀ w, Calls Try.prog f #[U x, U y] w fun e w' => e = .returned (.tuple #[U z, .bool o]) ∧ Below w.heap.size w w'

set_option maxHeartbeats 4000000 in
set_option maxRecDepth 100000 in
theorem core (a b c X Y P Q R T : Nat) (o1 o3 o5 o6 o7 o8 : Bool) (k1 : Tells 11 a b X o1) (k2 : Tells 11 b a X o1) (k3 : Tells 17 a b Y o3) (k4 : Tells 17 b a Y o3)
    (k7 : Tells 17 X c P o5) (k8 : Tells 17 a c Q o6) (k9 : Tells 17 b c R o7) (k10 : Tells 11 Q R T o8) (good : o1 = false ∨ (o1 = true ∧ o5 = false) ∨ (o1 = true ∧ o5 = true ∧ o6 = true ∧ o7 = true ∧ o8 = true ∧ Hid (T = P))) (w : World) :
    Calls Try.prog 6 #[U a, U b, U c] w fun e w' => e = .returned (.bool true) ∧ Below w.heap.size w w' := by
  rcases good with rfl | ⟨rfl, rfl⟩ | ⟨rfl, rfl, rfl, rfl, rfl, HT⟩
  all_goals
    go_enter Try.func6, Try.ntmps6
    go_upto_region 1 with fail
    have S := (((St.start w).box a).box b).box c
    generalize ((w.alloc (.cells #[.int .u64 (hi a), .int .u64 (lo a)] 24)).alloc (.cells #[.int .u64 (hi b), .int .u64 (lo b)] 24)).alloc (.cells #[.int .u64 (hi c), .int .u64 (lo c)] 24) = w0 at *
    simp only [World.size_alloc] at S
    obtain ⟨l0, m0, l1, m1, l2, m2, _⟩ := S.lie
    go_wp2_with fail
    refine (k1 _).mono ?_
    rintro e v0 ⟨rfl, hb0⟩
    go_upto_region 2 with fail
    have S0 := (S.next hb0).box X
    generalize v0.alloc (.cells #[.int .u64 (hi X), .int .u64 (lo X)] 24) = x0 at *
    generalize v0.heap.size = B1 at *
    clear l0 m0 l1 m1 l2 m2
    clear S hb0
    obtain ⟨l0, m0, l1, m1, l2, m2, l3, m3, _⟩ := S0.lie
    go_wp2_with fail
    refine (k2 _).mono ?_
    rintro e v1 ⟨rfl, hb1⟩
    go_upto_region 3 with fail
    have S1 := (S0.next hb1).box X
    generalize v1.alloc (.cells #[.int .u64 (hi X), .int .u64 (lo X)] 24) = x1 at *
    generalize v1.heap.size = B2 at *
    clear l0 m0 l1 m1 l2 m2 l3 m3
    clear S0 hb1
    obtain ⟨l0, m0, l1, m1, l2, m2, l3, m3, l4, m4, _⟩ := S1.lie
    go_wp2_with fail
    refine (k3 _).mono ?_
    rintro e v2 ⟨rfl, hb2⟩
    go_upto_region 4 with fail
    have S2 := (S1.next hb2).box Y
    generalize v2.alloc (.cells #[.int .u64 (hi Y), .int .u64 (lo Y)] 24) = x2 at *
    generalize v2.heap.size = B3 at *
    clear l0 m0 l1 m1 l2 m2 l3 m3 l4 m4
    clear S1 hb2
    obtain ⟨l0, m0, l1, m1, l2, m2, l3, m3, l4, m4, l5, m5, _⟩ := S2.lie
    go_wp2_with fail
    refine (k4 _).mono ?_
    rintro e v3 ⟨rfl, hb3⟩
    go_upto_region 5 with fail
    have S3 := (S2.next hb3).box Y
    generalize v3.alloc (.cells #[.int .u64 (hi Y), .int .u64 (lo Y)] 24) = x3 at *
    generalize v3.heap.size = B4 at *
    clear l0 m0 l1 m1 l2 m2 l3 m3 l4 m4 l5 m5
    clear S2 hb3
    obtain ⟨l0, m0, l1, m1, l2, m2, l3, m3, l4, m4, l5, m5, l6, m6, _⟩ := S3.lie
    go_wp2_with fail
    refine (k7 _).mono ?_
    rintro e v4 ⟨rfl, hb4⟩
    go_upto_region 8 with fail
    have S4 := (S3.next hb4).box P
    generalize v4.alloc (.cells #[.int .u64 (hi P), .int .u64 (lo P)] 24) = x4 at *
    generalize v4.heap.size = B5 at *
    clear l0 m0 l1 m1 l2 m2 l3 m3 l4 m4 l5 m5 l6 m6
    clear S3 hb4
    obtain ⟨l0, m0, l1, m1, l2, m2, l3, m3, l4, m4, l5, m5, l6, m6, l7, m7, _⟩ := S4.lie
    go_wp2_with fail
    refine (k8 _).mono ?_
    rintro e v5 ⟨rfl, hb5⟩
    go_upto_region 9 with fail
    have S5 := (S4.next hb5).box Q
    generalize v5.alloc (.cells #[.int .u64 (hi Q), .int .u64 (lo Q)] 24) = x5 at *
    generalize v5.heap.size = B6 at *
    clear l0 m0 l1 m1 l2 m2 l3 m3 l4 m4 l5 m5 l6 m6 l7 m7
    clear S4 hb5
    obtain ⟨l0, m0, l1, m1, l2, m2, l3, m3, l4, m4, l5, m5, l6, m6, l7, m7, l8, m8, _⟩ := S5.lie
    go_wp2_with fail
    refine (k9 _).mono ?_
    rintro e v6 ⟨rfl, hb6⟩
    go_upto_region 10 with fail
    have S6 := (S5.next hb6).box R
    generalize v6.alloc (.cells #[.int .u64 (hi R), .int .u64 (lo R)] 24) = x6 at *
    generalize v6.heap.size = B7 at *
    clear l0 m0 l1 m1 l2 m2 l3 m3 l4 m4 l5 m5 l6 m6 l7 m7 l8 m8
    clear S5 hb6
    obtain ⟨l0, m0, l1, m1, l2, m2, l3, m3, l4, m4, l5, m5, l6, m6, l7, m7, l8, m8, l9, m9, _⟩ := S6.lie
    go_wp2_with fail
    refine (k10 _).mono ?_
    rintro e v7 ⟨rfl, hb7⟩
    go_upto_region 11 with fail
    have S7 := (S6.next hb7).box T
    generalize v7.alloc (.cells #[.int .u64 (hi T), .int .u64 (lo T)] 24) = x7 at *
    generalize v7.heap.size = B8 at *
    clear l0 m0 l1 m1 l2 m2 l3 m3 l4 m4 l5 m5 l6 m6 l7 m7 l8 m8 l9 m9
    clear S6 hb7
    obtain ⟨l0, m0, l1, m1, l2, m2, l3, m3, l4, m4, l5, m5, l6, m6, l7, m7, l8, m8, l9, m9, l10, m10, _⟩ := S7.lie
    (try rw [HT.out] at l0 m0)
    go_wp2_with (go_at_call 23; refine (awake_any _).mono ?_; rintro e y ⟨rfl, hy⟩)
    go_ret
    exact ⟨rfl, below_step S7.bl hy⟩

theorem tells_add (a b : Nat) (ha : Fits a) (hb : Fits b) : Tells 11 a b (cut (a + b)) (fitsB (a + b)) := fun w => add_bel a b ha hb w
theorem tells_mul (a b : Nat) (ha : Fits a) (hb : Fits b) : Tells 17 a b (cut (a * b)) (fitsB (a * b)) := fun w => mul_any a b ha hb w
theorem walk (a b c : Nat) (ha : Fits a) (hb : Fits b) (hc : Fits c) (w : World) :
    Calls Try.prog 6 #[U a, U b, U c] w fun e w' => e = .returned (.bool true) ∧ Below w.heap.size w w' := by
  have k2 := tells_add b a hb ha
  rw [Nat.add_comm] at k2
  have k4 := tells_mul b a hb ha
  rw [Nat.mul_comm] at k4
  refine core a b c _ _ _ _ _ _ _ _ _ _ _ _ (tells_add a b ha hb) k2 (tells_mul a b ha hb) k4 (tells_mul _ c (fits_cut _) hc) (tells_mul a c ha hc) (tells_mul b c hb hc) (tells_add _ _ (fits_cut _) (fits_cut _)) ?_ w
  by_cases f1 : Fits (a + b)
  · rw [cut_yes f1, fitsB_yes f1]
    by_cases f5 : Fits ((a + b) * c)
    · have e : (a + b) * c = a * c + b * c := Nat.add_mul a b c
      have f6 : Fits (a * c) := by unfold Fits at *; omega
      have f7 : Fits (b * c) := by unfold Fits at *; omega
      have f8 : Fits (a * c + b * c) := by rw [← e]; exact f5
      refine Or.inr (Or.inr ⟨rfl, fitsB_yes f5, fitsB_yes f6, fitsB_yes f7, ?_, ?_⟩)
      · rw [cut_yes f6, cut_yes f7]; exact fitsB_yes f8
      · unfold Hid; rw [cut_yes f6, cut_yes f7, cut_yes f8, cut_yes f5, e]
    · exact Or.inr (Or.inl ⟨rfl, fitsB_no f5⟩)
  · exact Or.inl (fitsB_no f1)

set_option maxRecDepth 100000 in
theorem lifted (os : Os) (started : os.Started) (H : Type) (enc : TypeId × Value → H) :
    ReturnsInHanded {} Try.checked os 6 .any (Rows.wideLawsSpec.pre6 enc Try.prog Try.f6 Rows.wideLawsRow.domain false) (Rows.wideLawsSpec.post enc Try.prog Try.f6 false true false false) := by
  refine returnsInHanded_of_change (C := Try.checked) own started (by kernel_rfl) Try.func6
    (ChangeSpec.witness6 (enc := enc) (C := Try.checked) false ⟨#[], #[.agg #[.int .u64 0, .int .u64 0], .agg #[.int .u64 0, .int .u64 0], .agg #[.int .u64 0, .int .u64 0]], []⟩ 8 (by kernel_rfl) (by kernel_rfl) (by kernel_rfl) (by kernel_rfl)) ?_
  intro W base args ds gs before hval0 hW hcnd _
  have hval : ∀ (j : Nat) t v, Try.f6.params[j]? = some t → args[j]? = some v → Value.okWide Try.prog W .any base t v := hval0
  have hW' := hW
  obtain ⟨p, q, hA0, hV, rfl, hfz, hnd⟩ := hW
  have hA : DataW.TrodAll enc Try.prog W 0 (fun _ => true) true Try.f6.params.toList args.toList ds p := hA0
  rw [Try.params6] at hA hval
  obtain ⟨v0, v1, v2, d0, d1, d2, p0, p1, p2, rfl, rfl, rfl, h0, h1, h2⟩ := trodAll_three hA
  obtain ⟨rfl, rfl⟩ := trodVars_none hV
  obtain ⟨a, ha, rfl, rfl, rfl, s0⟩ := open_num (hval 0 24 v0 rfl rfl) h0
  obtain ⟨b, hb, rfl, rfl, rfl, s1⟩ := open_num (hval 1 24 v1 rfl rfl) h1
  obtain ⟨c, hc, rfl, rfl, rfl, s2⟩ := open_num (hval 2 24 v2 rfl rfl) h2
  clear hA0 hval0
  simp only [List.append_nil] at hW'
  refine (walk a b c ha hb hc W).mono fun e W' ⟨he, hbe⟩ => ?_
  subst he
  exact ⟨_, rfl, post_plain hW' (fun _ _ _ => trodAll_mk1 (shut_bool Try.underlying4 _)) (fun sp => trodAll_mk3 (s0 _ _) (s1 _ _) (s2 _ _)) (fun _ => rfl) hbe⟩

theorem proved : Rows.WideLawsSaid :=
  OpenClaim.holds_of_wide 6 Try.f6 rfl rfl rfl rfl rfl rfl rfl ⟨rfl, rfl, rfl, rfl, rfl⟩ rfl rfl rfl rfl rfl (by kernel_rfl) Try.func6 (by kernel_rfl)
    (of_decide_eq_true (by kernel_rfl)) (by unfold Func.isWrapper; first | (rw [if_pos (by decide +kernel)]; kernel_rfl) | (rw [if_neg (by decide +kernel)]; exact ⟨rfl, rfl⟩))
    (fun os started H enc _ => lifted os started H enc)
#print axioms proved
end Go.Proofs.Ytgafejolijjiiaa.wideLaws
