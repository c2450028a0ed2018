/- For every two numbers of 128 bits the law WideBack answers true: what is added is taken away again; what is divided comes back; a text is read as it was. No condition. -/
import Derived.Test.YtgafejolijjiiaaBase
import Derived.Test.YtgafejolijjiiaaMathH
namespace Go.Proofs.Ytgafejolijjiiaa.wideBack
open Go.ChangeShapes Go.WideShapes Go.ChangeAt Go.RowKit
open Go.Proofs.Ytgafejolijjiiaa
set_option linter.unusedVariables false
set_option linter.unusedSimpArgs false

theorem U0 : U 0 = .agg #[.int .u64 0, .int .u64 0] := by show Value.agg #[.int .u64 (hi 0), .int .u64 (lo 0)] = _; rw [hi_zero, lo_zero]
theorem sgn_less {a b : Nat} (h : a < b) : sgn a b < 0 := by unfold sgn; rw [if_pos h]; decide

set_option maxHeartbeats 4000000 in
set_option maxRecDepth 100000 in
theorem walk (a b : Nat) (ha : Fits a) (hb : Fits b) (w : World) : Calls Try.prog 5 #[U a, U b] w fun e w' => e = .returned (.bool true) ∧ Below w.heap.size w w' := by
  obtain ⟨L, hL⟩ : ∃ L, text a = L := ⟨_, rfl⟩
  have TX := Lib.hid (text_any a ha)
  have len := text_len (n := a)
  have rd := read_text ha
  rw [hL] at TX len rd
  have RD := Lib.hid (read_any ⟨L.toArray⟩ (by unfold maxLen; rw [size_of_list]; omega))
  obtain ⟨r1, r2⟩ := readN_some rd
  have el : (⟨L.toArray⟩ : ByteArray).data.toList = L := rfl
  rw [el, r1, r2] at RD
  obtain ⟨X, o, K1, good⟩ : ∃ (X : Nat) (o : Bool), Hid (∀ w, Calls Try.prog 11 #[U a, U b] w fun e w' => e = .returned (.tuple #[U X, .bool o]) ∧ Below w.heap.size w w') ∧ Hid ((o = true ∧ X = a + b ∧ Fits (a + b)) ∨ o = false) := by
    by_cases f : Fits (a + b)
    · have k := add_bel a b ha hb
      rw [cut_yes f, fitsB_yes f] at k
      exact ⟨a + b, true, k, Or.inl ⟨rfl, rfl, f⟩⟩
    · have k := add_bel a b ha hb
      rw [cut_no f, fitsB_no f] at k
      exact ⟨0, false, k, Or.inr rfl⟩
  have HA := Lib.hid ha; have HB := Lib.hid hb
  clear len rd r1 r2 el hL ha hb
  go_enter Try.func5, Try.ntmps5
  go_upto_region 1 with fail
  have S := ((St.start w).box a).box b
  generalize (w.alloc (.cells #[.int .u64 (hi a), .int .u64 (lo a)] 24)).alloc (.cells #[.int .u64 (hi b), .int .u64 (lo b)] 24) = w0 at *
  simp only [World.size_alloc] at S
  obtain ⟨b0, b1, a0, a1, _⟩ := S.lie
  go_wp2_with fail
  refine (K1.out _).mono ?_
  rintro e w1 ⟨rfl, hb1⟩
  go_upto_if 24 with fail
  have S1 := (S.next hb1).box X
  generalize w1.alloc (.cells #[.int .u64 (hi X), .int .u64 (lo X)] 24) = x1 at *
  generalize w1.heap.size = B1 at *
  clear S hb1 b0 b1 a0 a1
  obtain ⟨s0, s1, b0, b1, a0, a1, _⟩ := S1.lie
  go_cut [7, 8] (fun _ _ wx => St w [(w.heap.size + 1, b), (w.heap.size, a)] wx)
  case first =>
    rcases good.out with ⟨rfl, rfl, f⟩ | rfl
    · clear good
      have K := Lib.hid (sub_bel (a + b) b f HB.out (by omega))
      have e : a + b - b = a := by omega
      rw [e] at K
      clear e f
      go_wp2_with fail
      refine (K.out _).mono ?_
      rintro e w2 ⟨rfl, hb2⟩
      go_upto_region 4 with fail
      have S2 := (S1.next hb2).box a
      generalize w2.alloc (.cells #[.int .u64 (hi a), .int .u64 (lo a)] 24) = x2 at *
      generalize w2.heap.size = B2 at *
      clear s0 s1 b0 b1 a0 a1 hb2
      obtain ⟨d0, d1, s0, s1, b0, b1, a0, a1, _⟩ := S2.lie
      go_wp2_with fail
      go_meet
      exact ⟨⟨b0, b1, a0, a1, trivial⟩, S2.bl⟩
    · clear good
      go_wp2_with fail
      go_meet
      exact ⟨⟨b0, b1, a0, a1, trivial⟩, S1.bl⟩
  case rest =>
    clear s0 s1 b0 b1 a0 a1 S1
    have S1 : St w [(w.heap.size + 1, b), (w.heap.size, a)] wc := hcut
    clear hcut
    obtain ⟨b0, b1, a0, a1, _⟩ := S1.lie
    go_wp2_with fail
    refine (TX.out _).mono ?_
    rintro e w2 ⟨rfl, hb2⟩
    go_wp2_with fail
    refine (RD.out _).mono ?_
    rintro e w3 ⟨rfl, hb3⟩
    go_upto_region 7 with fail
    have S3 := ((S1.next hb2).next hb3).box a
    generalize w3.alloc (.cells #[.int .u64 (hi a), .int .u64 (lo a)] 24) = x3 at *
    generalize w3.heap.size = B3 at *
    clear b0 b1 a0 a1 hb2 hb3 S1
    obtain ⟨n0, n1, b0, b1, a0, a1, _⟩ := S3.lie
    by_cases z : b = 0
    · subst z
      have hz := hi_zero; have lz := lo_zero
      have K := Lib.hid (div_zero a)
      rw [U0] at K
      go_wp2_with fail
      refine (K.out _).mono ?_
      rintro e w4 ⟨rfl, hb4⟩
      go_upto_region 10 with fail
      have S4 := (((S3.next hb4).box 0).box 0)
      simp only [hz, lz] at S4
      generalize (w4.alloc (.cells #[.int .u64 0, .int .u64 0] 24)).alloc (.cells #[.int .u64 0, .int .u64 0] 24) = x4 at *
      clear n0 n1 b0 b1 a0 a1
      obtain ⟨_, _, _, _, n0, n1, b0, b1, a0, a1, _⟩ := S4.lie
      go_wp2_with (go_at_call 23; refine (awake_any _).mono ?_; rintro e y ⟨rfl, hy⟩)
      go_ret
      exact ⟨rfl, below_step S4.bl hy⟩
    · have K := Lib.hid (div_any a b HA.out HB.out z)
      have md := Nat.mod_lt a (show 0 < b by omega)
      have e1 : a / b * b + a % b = a := Nat.div_add_mod' a b
      have fq : Fits (a / b) := by have := HA.out; unfold Fits at *; have := Nat.div_le_self a b; generalize a / b = q at *; omega
      have fr : Fits (a % b) := by have := HA.out; unfold Fits at *; have := Nat.mod_le a b; generalize a % b = q at *; omega
      have fm : Fits (a / b * b) := by have := HA.out; unfold Fits at *; omega
      have KM := Lib.hid (mul_any (a / b) b fq HB.out)
      rw [cut_yes fm, fitsB_yes fm] at KM
      have KA := Lib.hid (add_bel (a / b * b) (a % b) fm fr)
      rw [e1, cut_yes HA.out, fitsB_yes HA.out] at KA
      have sg := sgn_less md
      have KC := Lib.hid (cmp_bel (a % b) b)
      clear md e1 fq fr fm z
      generalize a / b * b = M at *
      generalize a / b = Q at *
      generalize a % b = R at *
      go_wp2_with fail
      refine (K.out _).mono ?_
      rintro e w4 ⟨rfl, hb4⟩
      go_upto_region 10 with fail
      have S4 := (((S3.next hb4).box Q).box R)
      simp only [World.size_alloc] at S4
      generalize (w4.alloc (.cells #[.int .u64 (hi Q), .int .u64 (lo Q)] 24)).alloc (.cells #[.int .u64 (hi R), .int .u64 (lo R)] 24) = x4 at *
      generalize w4.heap.size = B4 at *
      clear n0 n1 b0 b1 a0 a1 hb4 S3
      obtain ⟨r0, r1, q0, q1, n0, n1, b0, b1, a0, a1, _⟩ := S4.lie
      go_wp2_with fail
      refine (KM.out _).mono ?_
      rintro e w5 ⟨rfl, hb5⟩
      go_upto_region 13 with fail
      have S5 := (S4.next hb5).box M
      generalize w5.alloc (.cells #[.int .u64 (hi M), .int .u64 (lo M)] 24) = x5 at *
      generalize w5.heap.size = B5 at *
      clear r0 r1 q0 q1 n0 n1 b0 b1 a0 a1 hb5 S4
      obtain ⟨m0, m1, r0, r1, q0, q1, n0, n1, b0, b1, a0, a1, _⟩ := S5.lie
      go_wp2_with fail
      refine (KA.out _).mono ?_
      rintro e w6 ⟨rfl, hb6⟩
      go_upto_region 14 with fail
      have S6 := (S5.next hb6).box a
      generalize w6.alloc (.cells #[.int .u64 (hi a), .int .u64 (lo a)] 24) = x6 at *
      generalize w6.heap.size = B6 at *
      clear m0 m1 r0 r1 q0 q1 n0 n1 b0 b1 a0 a1 hb6 S5
      obtain ⟨c0, c1, m0, m1, r0, r1, q0, q1, n0, n1, b0, b1, a0, a1, _⟩ := S6.lie
      go_wp2_with fail
      refine (KC.out _).mono ?_
      rintro e w7 ⟨rfl, hb7⟩
      go_wp2_with (go_at_call 23; refine (awake_any _).mono ?_; rintro e y ⟨rfl, hy⟩)
      go_ret
      exact ⟨rfl, below_step (below_step S6.bl hb7) hy⟩

set_option maxRecDepth 100000 in
theorem lifted (os : Os) (started : os.Started) (H : Type) (enc : TypeId × Value → H) :
    ReturnsInHanded {} Try.checked os 5 .any (Rows.wideBackSpec.pre6 enc Try.prog Try.f5 Rows.wideBackRow.domain false) (Rows.wideBackSpec.post enc Try.prog Try.f5 false true false false) := by
  refine returnsInHanded_of_change (C := Try.checked) own started (by kernel_rfl) Try.func5
    (ChangeSpec.witness6 (enc := enc) (C := Try.checked) false ⟨#[], #[.agg #[.int .u64 0, .int .u64 0], .agg #[.int .u64 0, .int .u64 0]], []⟩ 8 (by kernel_rfl) (by kernel_rfl) (by kernel_rfl) (by kernel_rfl)) ?_
  intro W base args ds gs before hval0 hW hcnd _
  have hval : ∀ (j : Nat) t v, Try.f5.params[j]? = some t → args[j]? = some v → Value.okWide Try.prog W .any base t v := hval0
  have hW' := hW
  obtain ⟨p, q, hA0, hV, rfl, hfz, hnd⟩ := hW
  have hA : DataW.TrodAll enc Try.prog W 0 (fun _ => true) true Try.f5.params.toList args.toList ds p := hA0
  rw [Try.params5] at hA hval
  obtain ⟨v0, v1, d0, d1, p0, p1, rfl, rfl, rfl, h0, h1⟩ := trodAll_two hA
  obtain ⟨rfl, rfl⟩ := trodVars_none hV
  obtain ⟨a, ha, rfl, rfl, rfl, s0⟩ := open_num (hval 0 24 v0 rfl rfl) h0
  obtain ⟨b, hb, rfl, rfl, rfl, s1⟩ := open_num (hval 1 24 v1 rfl rfl) h1
  clear hA0 hval0
  simp only [List.append_nil] at hW'
  refine (walk a b ha hb W).mono fun e W' ⟨he, hbe⟩ => ?_
  subst he
  exact ⟨_, rfl, post_plain hW' (fun _ _ _ => trodAll_mk1 (shut_bool Try.underlying4 _)) (fun sp => trodAll_mk2 (s0 _ _) (s1 _ _)) (fun _ => rfl) hbe⟩

theorem proved : Rows.WideBackSaid :=
  OpenClaim.holds_of_wide 5 Try.f5 rfl rfl rfl rfl rfl rfl rfl ⟨rfl, rfl, rfl, rfl, rfl⟩ rfl rfl rfl rfl rfl (by kernel_rfl) Try.func5 (by kernel_rfl)
    (of_decide_eq_true (by kernel_rfl)) (by unfold Func.isWrapper; first | (rw [if_pos (by decide +kernel)]; kernel_rfl) | (rw [if_neg (by decide +kernel)]; exact ⟨rfl, rfl⟩))
    (fun os started H enc _ => lifted os started H enc)
#print axioms proved
end Go.Proofs.Ytgafejolijjiiaa.wideBack
