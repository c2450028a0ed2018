/- For every number of 128 bits the law WideTens answers true: a text with a 0 behind is ten times the number, or none, if that is too great. No condition. -/
import Derived.Test.YtgafejolijjiiaaBase
import Derived.Test.YtgafejolijjiiaaMathH
namespace Go.Proofs.Ytgafejolijjiiaa.wideTens
open Go.ChangeShapes Go.WideShapes Go.ChangeAt Go.RowKit
open Go.Proofs.Ytgafejolijjiiaa
set_option linter.unusedVariables false
set_option linter.unusedSimpArgs false

set_option maxHeartbeats 4000000 in
set_option maxRecDepth 100000 in
theorem core (n R : Nat) (hn : Fits n) (o zb : Bool) (L : List UInt8) (hL : text n = L) (kr : Hid (∀ w, Calls Try.prog 24 #[.string ((⟨L.toArray⟩ : ByteArray) ++ ⟨#[48]⟩)] w fun e w' => e = .returned (.tuple #[U R, .bool o]) ∧ Below w.heap.size w w'))
    (good : (n = 0 ∧ R = 0 ∧ o = false ∧ zb = true) ∨ (n ≠ 0 ∧ R = cut (n * 10) ∧ o = fitsB (n * 10) ∧ zb = false)) (w : World) :
    Calls Try.prog 9 #[U n] w fun e w' => e = .returned (.bool true) ∧ Below w.heap.size w w' := by
  have HN := Lib.hid hn
  have ten : Word 10 := .mk (by decide) (by decide)
  have F10 : Hid (Fits (10 : Int).toNat) := by unfold Hid Fits; decide
  have TX := Lib.hid (text_any n hn)
  rw [hL] at TX
  have len : ¬ 9223372036854775807 < L.length + 1 := by have := text_len (n := n); rw [hL] at this; omega
  have GOOD := Lib.hid good
  clear hn hL good
  go_enter Try.func9, Try.ntmps9
  go_wp2_with fail
  refine (TX.out _).mono ?_
  rintro e w1 ⟨rfl, hb1⟩
  go_wp2_with fail
  refine (kr.out _).mono ?_
  rintro e w2 ⟨rfl, hb2⟩
  go_upto_region 2 with fail
  have S := ((((St.start w).box n).next hb1).next hb2).box R
  have zR : w.heap.size < w2.heap.size := cell_lt ((((St.start w).box n).next hb1).next hb2).lie.1
  generalize w2.alloc (.cells #[.int .u64 (hi R), .int .u64 (lo R)] 24) = wA at *
  generalize w2.heap.size = B at *
  clear hb1 hb2
  obtain ⟨r0, r1, a0, a1, _⟩ := S.lie
  have zA : B < wA.heap.size := cell_lt r0
  go_cut [5, 6] (fun s5 s6 wx => ∃ C, s5 = .pointer (some ⟨C, 0, none⟩) ∧ s6 = .bool (fitsB (n * 10)) ∧ St w [(C, cut (n * 10)), (B, R), (w.heap.size, n)] wx)
  case first =>
    go_region_held3 (fun w' => w'.cell? ⟨w.heap.size, 0, none⟩ = some (.int .u64 (hi n)) ∧ w'.cell? ⟨w.heap.size, 1, none⟩ = some (.int .u64 (lo n)))
      ((refine ⟨?_, ?_⟩ <;> (repeat (first | with_reducible exact a0 | with_reducible exact a1 | with_reducible refine keep_alloc ?_ _ | with_reducible refine keep_drew ?_ | (with_reducible refine keep_set ?_ _ ?_; rotate_left; (· (simp only [ne_eq]; omega))) | with_reducible refine keep_cell (by assumption) ?_))))
      (first
        | (go_at_call 22; refine (of_bel _ ten _).mono ?_; rintro e w3 ⟨rfl, hb3⟩; obtain ⟨hc3, hf3⟩ := bcell hb3; have z3 := hb3.size; (try simp only [World.size_alloc, World.size_drew, Nat.add_one_le_iff] at z3))
        | (go_at_call 17; refine (mul_any n 10 HN.out F10.out _).mono ?_; rintro e w4 ⟨rfl, hb4⟩; obtain ⟨hc4, hf4⟩ := bcell hb4; have z4 := hb4.size; (try simp only [World.size_alloc, World.size_drew, Nat.add_one_le_iff] at z4); (try (refine fact_of (p := wA.heap.size < w4.heap.size) ?_ ?_; (· omega); intro _))))
    all_goals go_wp2_with fail
    all_goals go_meet
    all_goals go_light
    all_goals refine ⟨_, rfl, rfl, ⟨?_, ?_, ?_, ?_, ?_, ?_, trivial⟩, ?_⟩
    all_goals (repeat (first
      | with_reducible exact a0 | with_reducible exact a1 | with_reducible exact r0 | with_reducible exact r1 | with_reducible exact S.bl
      | (simp [go_sem]; done)
      | with_reducible refine cell_put0 ?_ | with_reducible refine cell_put1 ?_ | with_reducible refine keep_alloc ?_ _ | with_reducible refine keep_drew ?_
      | (with_reducible refine keep_set ?_ _ ?_; rotate_left; (· (simp only [ne_eq]; omega)))
      | with_reducible refine keep_cell (by assumption) ?_
      | with_reducible refine Below.drew ?_ | (with_reducible refine Below.setCell ?_ ?_ _; rotate_left; (· (simp only []; omega)))
      | (with_reducible refine Below.alloc ?_ ?_ _; rotate_left; (· ((try simp only [World.size_alloc, World.size_drew, World.size_setCell]); omega)))
      | with_reducible refine below_step ?_ (by assumption)))
  case rest =>
    obtain ⟨C, rfl, rfl, S2⟩ := hcut
    clear r0 r1 a0 a1 zA zR S
    obtain ⟨c0, c1, r0, r1, a0, a1, _⟩ := S2.lie
    go_upto_region 3 with fail
    go_cut [22] (fun s22 wx => s22 = .bool zb ∧ wx = wc)
    case first =>
      rcases GOOD.out with ⟨rfl, _, _, rfl⟩ | ⟨h0, _, _, rfl⟩
      · have hz := hi_zero; have lz := lo_zero
        clear GOOD
        go_wp2_with fail
        go_meet
        exact ⟨rfl, rfl⟩
      · by_cases hh : hi n = 0
        · have hb : (hi n == 0) = true := by simpa using hh
          have lb : (lo n == 0) = false := by
            simp; intro e; exact h0 (eq_of_words (by rw [hh, hi_zero]) (by rw [e, lo_zero]))
          clear h0 hh GOOD
          go_wp2_with fail
          go_meet
          exact ⟨rfl, rfl⟩
        · have hb : (hi n == 0) = false := by simpa using hh
          clear h0 hh GOOD
          go_wp2_with fail
          go_meet
          exact ⟨rfl, rfl⟩
    case rest =>
      obtain ⟨rfl, rfl⟩ := hcut
      rcases GOOD.out with ⟨h0, rfl, rfl, rfl⟩ | ⟨h0, rfl, rfl, rfl⟩
      · have hz := hi_zero; have lz := lo_zero
        clear GOOD h0
        go_wp2_with (go_at_call 23; refine (awake_any _).mono ?_; rintro e y ⟨rfl, hy⟩)
        go_ret
        exact ⟨rfl, below_step S2.bl hy⟩
      · clear GOOD h0
        go_wp2_with (go_at_call 23; refine (awake_any _).mono ?_; rintro e y ⟨rfl, hy⟩)
        go_ret
        exact ⟨rfl, below_step S2.bl hy⟩

theorem walk (n : Nat) (hn : Fits n) (w : World) : Calls Try.prog 9 #[U n] w fun e w' => e = .returned (.bool true) ∧ Below w.heap.size w w' := by
  have e : (((⟨(text n).toArray⟩ : ByteArray) ++ ⟨#[48]⟩ : ByteArray)).data.toList = text n ++ [48] := by simp
  have sz : (((⟨(text n).toArray⟩ : ByteArray) ++ ⟨#[48]⟩ : ByteArray)).size ≤ maxLen := by
    have h1 : (((⟨(text n).toArray⟩ : ByteArray) ++ ⟨#[48]⟩ : ByteArray)).data.toList.length = (text n).length + 1 := by rw [e]; simp
    have h2 : (((⟨(text n).toArray⟩ : ByteArray) ++ ⟨#[48]⟩ : ByteArray)).size = (((⟨(text n).toArray⟩ : ByteArray) ++ ⟨#[48]⟩ : ByteArray)).data.toList.length := by rw [Array.length_toList]; rfl
    have h3 := text_len (n := n)
    unfold maxLen
    omega
  have kr := fun w => read_any _ sz w
  rw [e] at kr
  by_cases h0 : n = 0
  · subst h0
    obtain ⟨e1, e2⟩ := readN_none read_nought_ten
    rw [e1, e2] at kr
    exact core 0 0 hn false true _ rfl kr (Or.inl ⟨rfl, rfl, rfl, rfl⟩) w
  · have r := read_ten hn h0
    by_cases f : Fits (n * 10)
    · rw [if_pos (fitsB_yes f)] at r
      obtain ⟨e1, e2⟩ := readN_some r
      rw [e1, e2] at kr
      exact core n (n * 10) hn true false _ rfl kr (Or.inr ⟨h0, (cut_yes f).symm, (fitsB_yes f).symm, rfl⟩) w
    · rw [if_neg (by rw [fitsB_no f]; decide)] at r
      obtain ⟨e1, e2⟩ := readN_none r
      rw [e1, e2] at kr
      exact core n 0 hn false false _ rfl kr (Or.inr ⟨h0, (cut_no f).symm, (fitsB_no f).symm, rfl⟩) w

set_option maxRecDepth 100000 in
theorem lifted (os : Os) (started : os.Started) (H : Type) (enc : TypeId × Value → H) :
    ReturnsInHanded {} Try.checked os 9 .any (Rows.wideTensSpec.pre6 enc Try.prog Try.f9 Rows.wideTensRow.domain false) (Rows.wideTensSpec.post enc Try.prog Try.f9 false true false false) := by
  refine returnsInHanded_of_change (C := Try.checked) own started (by kernel_rfl) Try.func9
    (ChangeSpec.witness6 (enc := enc) (C := Try.checked) false ⟨#[], #[.agg #[.int .u64 0, .int .u64 0]], []⟩ 8 (by kernel_rfl) (by kernel_rfl) (by kernel_rfl) (by kernel_rfl)) ?_
  intro W base args ds gs before hval0 hW hcnd _
  have hval : ∀ (j : Nat) t v, Try.f9.params[j]? = some t → args[j]? = some v → Value.okWide Try.prog W .any base t v := hval0
  have hW' := hW
  obtain ⟨p, q, hA0, hV, rfl, hfz, hnd⟩ := hW
  have hA : DataW.TrodAll enc Try.prog W 0 (fun _ => true) true Try.f9.params.toList args.toList ds p := hA0
  rw [Try.params9] at hA hval
  obtain ⟨v0, d0, rfl, rfl, h0⟩ := trodAll_one hA
  obtain ⟨rfl, rfl⟩ := trodVars_none hV
  obtain ⟨n, hn, rfl, rfl, rfl, s0⟩ := open_num (hval 0 24 v0 rfl rfl) h0
  clear hA0 hval0
  simp only [List.append_nil] at hW'
  refine (walk n hn W).mono fun e W' ⟨he, hb⟩ => ?_
  subst he
  exact ⟨_, rfl, post_plain hW' (fun _ _ _ => trodAll_mk1 (shut_bool Try.underlying4 _)) (fun sp => trodAll_mk1 (s0 _ _)) (fun _ => rfl) hb⟩

theorem proved : Rows.WideTensSaid :=
  OpenClaim.holds_of_wide 9 Try.f9 rfl rfl rfl rfl rfl rfl rfl ⟨rfl, rfl, rfl, rfl, rfl⟩ rfl rfl rfl rfl rfl (by kernel_rfl) Try.func9 (by kernel_rfl)
    (of_decide_eq_true (by kernel_rfl)) (by unfold Func.isWrapper; first | (rw [if_pos (by decide +kernel)]; kernel_rfl) | (rw [if_neg (by decide +kernel)]; exact ⟨rfl, rfl⟩))
    (fun os started H enc _ => lifted os started H enc)
#print axioms proved
end Go.Proofs.Ytgafejolijjiiaa.wideTens
