/- For every two numbers of 128 bits the law WideOrder answers true: a number is less than another one just if it cannot be taken from, and their texts stand so, too. No condition. -/
import Derived.Test.YtgafejolijjiiaaBase
import Derived.Test.YtgafejolijjiiaaMathH
namespace Go.Proofs.Ytgafejolijjiiaa.wideOrder
open Go.ChangeShapes Go.WideShapes Go.ChangeAt Go.RowKit
open Go.Proofs.Ytgafejolijjiiaa
set_option linter.unusedVariables false
set_option linter.unusedSimpArgs false

/-- What a call of two numbers tells: a number, and whether it is one. -/
def Tells (f : FuncId) (x y z : Nat) (o : Bool) : Prop := ∀ w, Calls Try.prog f #[U x, U y] w fun e w' => e = .returned (.tuple #[U z, .bool o]) ∧ Below w.heap.size w w'

set_option maxHeartbeats 4000000 in
set_option maxRecDepth 100000 in
theorem core (a b X Y : Nat) (ha : Fits a) (hb : Fits b) (up down less : Bool) (c d : Int) (k1 : Tells 13 a b X up) (k2 : Tells 13 b a Y down) (kc : Hid (sgn a b = c)) (kd : Hid (sgn b a = d))
    (good : Hid ((c = -1 ∧ d = 1 ∧ up = false ∧ down = true ∧ less = true ∧ a ≠ b) ∨ (c = 0 ∧ d = 0 ∧ up = true ∧ down = true ∧ less = false ∧ b = a) ∨ (c = 1 ∧ d = -1 ∧ up = true ∧ down = false ∧ less = false ∧ a ≠ b)))
    (short : Hid ((less = true ∧ ((text a).length < (text b).length ∨ (¬ (text a).length < (text b).length ∧ (text a).length = (text b).length ∧ Op.bytesLess (text a) (text b) = true))) ∨
      (less = false ∧ ¬ (text a).length < (text b).length ∧ (¬ (text a).length = (text b).length ∨ ((text a).length = (text b).length ∧ Op.bytesLess (text a) (text b) = false))))) (w : World) :
    Calls Try.prog 7 #[U a, U b] w fun e w' => e = .returned (.bool true) ∧ Below w.heap.size w w' := by
  have C1 := Lib.hid (cmp_bel a b)
  rw [kc.out] at C1
  have C2 := Lib.hid (cmp_bel b a)
  rw [kd.out] at C2
  go_enter Try.func7, Try.ntmps7
  go_upto_region 1 with fail
  have S := ((St.start w).box a).box b
  generalize (w.alloc (.cells #[.int .u64 (hi a), .int .u64 (lo a)] 24)).alloc (.cells #[.int .u64 (hi b), .int .u64 (lo b)] 24) = w0 at *
  simp only [World.size_alloc] at S
  obtain ⟨b0, b1, a0, a1, _⟩ := S.lie
  go_wp2_with fail
  refine (k1 _).mono ?_
  rintro e w1 ⟨rfl, hb1⟩
  go_upto_region 2 with fail
  have S1 := (S.next hb1).box X
  generalize w1.alloc (.cells #[.int .u64 (hi X), .int .u64 (lo X)] 24) = x1 at *
  clear b0 b1 a0 a1
  obtain ⟨_, _, b0, b1, a0, a1, _⟩ := S1.lie
  go_wp2_with fail
  refine (k2 _).mono ?_
  rintro e w2 ⟨rfl, hb2⟩
  go_upto_region 3 with fail
  have S2 := (S1.next hb2).box Y
  generalize w2.alloc (.cells #[.int .u64 (hi Y), .int .u64 (lo Y)] 24) = x2 at *
  clear b0 b1 a0 a1
  obtain ⟨_, _, _, _, b0, b1, a0, a1, _⟩ := S2.lie
  go_wp2_with fail
  refine (C1.out _).mono ?_
  rintro e w3 ⟨rfl, hb3⟩
  have S3 := S2.next hb3
  clear b0 b1 a0 a1
  obtain ⟨_, _, _, _, b0, b1, a0, a1, _⟩ := S3.lie
  go_upto_region 4 with fail
  go_cut [10, 11] (fun s10 s11 wx => s10 = .string ⟨(text a).toArray⟩ ∧ s11 = .string ⟨(text b).toArray⟩ ∧ St w [(w.heap.size + 1, b), (w.heap.size, a)] wx)
  case first =>
    go_region_held3 (fun w' => w'.cell? ⟨w.heap.size, 0, none⟩ = some (.int .u64 (hi a)) ∧ w'.cell? ⟨w.heap.size, 1, none⟩ = some (.int .u64 (lo a)) ∧ w'.cell? ⟨w.heap.size + 1, 0, none⟩ = some (.int .u64 (hi b)) ∧ w'.cell? ⟨w.heap.size + 1, 1, none⟩ = some (.int .u64 (lo b)))
      ((refine ⟨?_, ?_, ?_, ?_⟩ <;> (repeat (first | with_reducible exact a0 | with_reducible exact a1 | with_reducible exact b0 | with_reducible exact b1 | with_reducible refine keep_drew ?_ | with_reducible refine keep_cell (by assumption) ?_))))
      (first
        | (go_at_call 26; refine (text_any _ (by assumption) _).mono ?_; rintro e y1 ⟨rfl, hy1⟩))
    all_goals go_wp2_with fail
    all_goals go_meet
    all_goals go_light
    all_goals refine ⟨rfl, rfl, ⟨?_, ?_, ?_, ?_, trivial⟩, ?_⟩
    all_goals (repeat (first
      | with_reducible exact a0 | with_reducible exact a1 | with_reducible exact b0 | with_reducible exact b1 | with_reducible exact S3.bl
      | with_reducible refine keep_drew ?_ | with_reducible refine keep_cell (by assumption) ?_
      | with_reducible refine Below.drew ?_ | with_reducible refine below_step ?_ (by assumption)))
  case rest =>
    obtain ⟨rfl, rfl, S4⟩ := hcut
    clear b0 b1 a0 a1
    obtain ⟨b0, b1, a0, a1, _⟩ := S4.lie
    go_upto_region 5 with fail
    clear hb1 hb2 hb3 S S1 S2 S3 k1 k2 C1 ha hb
    go_cut [12] (fun s12 wx => s12 = .bool less ∧ wx = wc)
    case first =>
      rcases short.out with ⟨rfl, l | ⟨l, e, bl⟩⟩ | ⟨rfl, l, e | ⟨e, bl⟩⟩
      · clear short
        go_wp2_with fail
        go_meet
        exact ⟨rfl, rfl⟩
      · have e1 : (((text a).length : Int) == ((text b).length : Int)) = true := by simp; omega
        clear short e
        go_wp2_with fail
        go_meet
        exact ⟨rfl, rfl⟩
      · have e1 : (((text a).length : Int) == ((text b).length : Int)) = false := by simp; omega
        clear short e
        go_wp2_with fail
        go_meet
        exact ⟨rfl, rfl⟩
      · have e1 : (((text a).length : Int) == ((text b).length : Int)) = true := by simp; omega
        clear short e
        go_wp2_with fail
        go_meet
        exact ⟨rfl, rfl⟩
    case rest =>
      obtain ⟨rfl, rfl⟩ := hcut
      clear short kc kd
      rcases good.out with ⟨rfl, rfl, rfl, rfl, rfl, ne⟩ | ⟨rfl, rfl, rfl, rfl, rfl, rfl⟩ | ⟨rfl, rfl, rfl, rfl, rfl, ne⟩
      · by_cases hh : hi a = hi b
        · have h1 : (hi a == hi b) = true := by simpa using hh
          have h2 : (lo a == lo b) = false := by simp; intro e; exact ne (eq_of_words hh e)
          clear good ne hh
          go_wp2_with fail
          refine (C2.out _).mono ?_
          rintro e w5 ⟨rfl, hb5⟩
          go_wp2_with (go_at_call 23; refine (awake_any _).mono ?_; rintro e y ⟨rfl, hy⟩)
          go_ret
          exact ⟨rfl, below_step (below_step S4.bl hb5) hy⟩
        · have h1 : (hi a == hi b) = false := by simpa using hh
          clear good ne hh
          go_wp2_with fail
          refine (C2.out _).mono ?_
          rintro e w5 ⟨rfl, hb5⟩
          go_wp2_with (go_at_call 23; refine (awake_any _).mono ?_; rintro e y ⟨rfl, hy⟩)
          go_ret
          exact ⟨rfl, below_step (below_step S4.bl hb5) hy⟩
      · clear good
        go_wp2_with fail
        refine (C2.out _).mono ?_
        rintro e w5 ⟨rfl, hb5⟩
        go_wp2_with (go_at_call 23; refine (awake_any _).mono ?_; rintro e y ⟨rfl, hy⟩)
        go_ret
        exact ⟨rfl, below_step (below_step S4.bl hb5) hy⟩
      · by_cases hh : hi a = hi b
        · have h1 : (hi a == hi b) = true := by simpa using hh
          have h2 : (lo a == lo b) = false := by simp; intro e; exact ne (eq_of_words hh e)
          clear good ne hh
          go_wp2_with fail
          refine (C2.out _).mono ?_
          rintro e w5 ⟨rfl, hb5⟩
          go_wp2_with (go_at_call 23; refine (awake_any _).mono ?_; rintro e y ⟨rfl, hy⟩)
          go_ret
          exact ⟨rfl, below_step (below_step S4.bl hb5) hy⟩
        · have h1 : (hi a == hi b) = false := by simpa using hh
          clear good ne hh
          go_wp2_with fail
          refine (C2.out _).mono ?_
          rintro e w5 ⟨rfl, hb5⟩
          go_wp2_with (go_at_call 23; refine (awake_any _).mono ?_; rintro e y ⟨rfl, hy⟩)
          go_ret
          exact ⟨rfl, below_step (below_step S4.bl hb5) hy⟩

theorem tells_sub (a b : Nat) (ha : Fits a) (hb : Fits b) : ∃ X, Tells 13 a b X (decide (b ≤ a)) := by
  by_cases h : b ≤ a
  · refine ⟨a - b, fun w => ?_⟩
    rw [decide_eq_true h]
    exact sub_bel a b ha hb h w
  · refine ⟨0, fun w => ?_⟩
    rw [decide_eq_false h]
    exact (sub_under a b hb h w).mono fun _ _ ⟨he, _, _, _, hw⟩ => ⟨he, by subst hw; exact three_bel _ _ _ _⟩

theorem walk (a b : Nat) (ha : Fits a) (hb : Fits b) (w : World) : Calls Try.prog 7 #[U a, U b] w fun e w' => e = .returned (.bool true) ∧ Below w.heap.size w w' := by
  obtain ⟨X, k1⟩ := tells_sub a b ha hb
  obtain ⟨Y, k2⟩ := tells_sub b a hb ha
  have o := text_order ha hb
  rcases Nat.lt_trichotomy a b with h | h | h
  · have e1 : sgn a b = -1 := by unfold sgn; rw [if_pos h]
    have e2 : sgn b a = 1 := by unfold sgn; rw [if_neg (by omega), if_pos h]
    rw [decide_eq_false (by omega)] at k1
    rw [decide_eq_true (by omega)] at k2
    refine core a b X Y ha hb false true true (-1) 1 k1 k2 e1 e2 (Or.inl ⟨rfl, rfl, rfl, rfl, rfl, by omega⟩) (Or.inl ⟨rfl, ?_⟩) w
    rcases o.1 h with l | ⟨l, bl⟩
    · exact Or.inl l
    · exact Or.inr ⟨by omega, l, bl⟩
  · subst h
    have e1 : sgn a a = 0 := by unfold sgn; rw [if_neg (by omega), if_neg (by omega)]
    rw [decide_eq_true (by omega)] at k1 k2
    refine core a a X Y ha hb true true false 0 0 k1 k2 e1 e1 (Or.inr (Or.inl ⟨rfl, rfl, rfl, rfl, rfl, rfl⟩)) (Or.inr ⟨rfl, by omega, Or.inr ⟨rfl, ?_⟩⟩) w
    have := mt o.2 (by omega)
    cases hbl : Op.bytesLess (text a) (text a)
    · rfl
    · exact absurd (Or.inr ⟨rfl, hbl⟩) this
  · have e1 : sgn a b = 1 := by unfold sgn; rw [if_neg (by omega), if_pos h]
    have e2 : sgn b a = -1 := by unfold sgn; rw [if_pos h]
    rw [decide_eq_true (by omega)] at k1
    rw [decide_eq_false (by omega)] at k2
    have no := mt o.2 (by omega)
    refine core a b X Y ha hb true false false 1 (-1) k1 k2 e1 e2 (Or.inr (Or.inr ⟨rfl, rfl, rfl, rfl, rfl, by omega⟩)) (Or.inr ⟨rfl, fun l => no (Or.inl l), ?_⟩) w
    by_cases l : (text a).length = (text b).length
    · refine Or.inr ⟨l, ?_⟩
      cases hbl : Op.bytesLess (text a) (text b)
      · rfl
      · exact absurd (Or.inr ⟨l, hbl⟩) no
    · exact Or.inl l

set_option maxRecDepth 100000 in
theorem lifted (os : Os) (started : os.Started) (H : Type) (enc : TypeId × Value → H) :
    ReturnsInHanded {} Try.checked os 7 .any (Rows.wideOrderSpec.pre6 enc Try.prog Try.f7 Rows.wideOrderRow.domain false) (Rows.wideOrderSpec.post enc Try.prog Try.f7 false true false false) := by
  refine returnsInHanded_of_change (C := Try.checked) own started (by kernel_rfl) Try.func7
    (ChangeSpec.witness6 (enc := enc) (C := Try.checked) false ⟨#[], #[.agg #[.int .u64 0, .int .u64 0], .agg #[.int .u64 0, .int .u64 0]], []⟩ 8 (by kernel_rfl) (by kernel_rfl) (by kernel_rfl) (by kernel_rfl)) ?_
  intro W base args ds gs before hval0 hW hcnd _
  have hval : ∀ (j : Nat) t v, Try.f7.params[j]? = some t → args[j]? = some v → Value.okWide Try.prog W .any base t v := hval0
  have hW' := hW
  obtain ⟨p, q, hA0, hV, rfl, hfz, hnd⟩ := hW
  have hA : DataW.TrodAll enc Try.prog W 0 (fun _ => true) true Try.f7.params.toList args.toList ds p := hA0
  rw [Try.params7] at hA hval
  obtain ⟨v0, v1, d0, d1, p0, p1, rfl, rfl, rfl, h0, h1⟩ := trodAll_two hA
  obtain ⟨rfl, rfl⟩ := trodVars_none hV
  obtain ⟨a, ha, rfl, rfl, rfl, s0⟩ := open_num (hval 0 24 v0 rfl rfl) h0
  obtain ⟨b, hb, rfl, rfl, rfl, s1⟩ := open_num (hval 1 24 v1 rfl rfl) h1
  clear hA0 hval0
  simp only [List.append_nil] at hW'
  refine (walk a b ha hb W).mono fun e W' ⟨he, hbe⟩ => ?_
  subst he
  exact ⟨_, rfl, post_plain hW' (fun _ _ _ => trodAll_mk1 (shut_bool Try.underlying4 _)) (fun sp => trodAll_mk2 (s0 _ _) (s1 _ _)) (fun _ => rfl) hbe⟩

theorem proved : Rows.WideOrderSaid :=
  OpenClaim.holds_of_wide 7 Try.f7 rfl rfl rfl rfl rfl rfl rfl ⟨rfl, rfl, rfl, rfl, rfl⟩ rfl rfl rfl rfl rfl (by kernel_rfl) Try.func7 (by kernel_rfl)
    (of_decide_eq_true (by kernel_rfl)) (by unfold Func.isWrapper; first | (rw [if_pos (by decide +kernel)]; kernel_rfl) | (rw [if_neg (by decide +kernel)]; exact ⟨rfl, rfl⟩))
    (fun os started H enc _ => lifted os started H enc)
#print axioms proved
end Go.Proofs.Ytgafejolijjiiaa.wideOrder
