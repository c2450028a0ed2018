/- For any words and any number the law DrawBoth answers true: what a number is below is the same as a natural. No condition. -/
import Derived.Test.YthhphbaimpcjfaaDNB
namespace Go.Proofs.Ythhphbaimpcjfaa.drawBoth
open Go.ChangeShapes Go.WideShapes Go.ChangeAt Go.RowKit
open Go.Proofs.Ythhphbaimpcjfaa
set_option linter.unusedVariables false
set_option linter.unusedSimpArgs false

set_option maxHeartbeats 4000000 in
set_option maxRecDepth 100000 in
theorem walk (A : Option Addr) (n c d : Nat) (xs : List Nat) (w : World) (HL : Wl w A n c xs) (hd : d < 18446744073709551616) : Calls Try.prog 5 #[.slice A n c, .int .u64 (d : Int)] w fun e w' => e = .returned (.bool true) ∧ Below w.heap.size w w' := by
  by_cases big : 60 < n
  · have b1 : (60 : Int) < n := by omega
    clear HL
    go_enter Try.func5, Try.ntmps5
    go_wp2_with fail
    refine (awake_any _).mono ?_
    rintro e y ⟨rfl, hy⟩
    go_wp2_with fail
    go_ret
    exact ⟨rfl, hy⟩
  · have b1 : ¬ (60 : Int) < n := by omega
    obtain ⟨⟨v, q, er⟩, hX⟩ : ∃ x, x = ans xs 0 d := ⟨_, rfl⟩
    have hv : v < 18446744073709551616 := by
      have := ans_lt xs 0 d
      rw [← hX] at this
      have this : v < d ∨ v = 0 := this
      omega
    have hqe : Hid (er = 0 ∨ q = 0) := by
      have := ans_back xs d
      rw [← hX] at this
      exact this
    have K1 : Hid (∀ W, Below w.heap.size w W → Calls Try.prog 10 #[wds A n c 0, .int .u64 (d : Int)] W fun e w' => e = .returned (.tuple #[.int .u64 (v : Int), .agg #[.slice A n c, .int .i64 q], .int .i64 er]) ∧ Below W.heap.size W w') := fun W hb => by
      have := below_any A n c d 0 xs W (HL.next hb) hd
      rw [← hX] at this
      exact this
    have KO := Lib.hid (refOf_any d hd)
    have KV := Lib.hid (refOf_any v hv)
    have KB : Hid (∀ (W : World) A1 n1 c1, Below w.heap.size w W → Lim W A1 n1 c1 (limbs d) → Calls Try.prog 14 #[wds A n c 0, .slice A1 n1 c1] W fun e w' => ∃ A' n' c', e = .returned (.tuple #[.slice A' n' c', .agg #[.slice A n c, .int .i64 q], .int .i64 er]) ∧ Lim w' A' n' c' (limbs v) ∧ Below W.heap.size W w') := fun W A1 n1 c1 hb h1 => by
      have := belowNat_any (p := 0) (HL.next hb) h1
      rw [ansN_limbs (ln_word hd), ← hX] at this
      exact this
    have KA := Lib.hid awake_any
    clear HL hX hd hv big
    obtain ⟨g5, hg⟩ : ∃ g, w.heap.size = g := ⟨_, rfl⟩
    have X5 := One.new w #[.slice A n c, .int .i64 0] 28
    rw [hg] at X5
    go_enter Try.func5, Try.ntmps5
    go_upto_region 4 with fail
    clear hg
    generalize w.alloc (.cells #[.slice A n c, .int .i64 0] 28) = w5 at *
    have BL5 := X5.bl
    replace X5 := X5.bg
    obtain ⟨h0, h1⟩ := X5.two
    go_wp2_with fail
    refine (K1.out _ BL5).mono ?_
    rintro e w6 ⟨rfl, B6⟩
    replace X5 := X5.next B6
    replace BL5 := below_step BL5 B6
    clear B6 h0 h1
    go_upto_region 5 with fail
    have X7 := Box.new w6 #[.slice A n c, .int .i64 q] 28
    have D7 : Below w6.heap.size w6 (w6.alloc (.cells #[.slice A n c, .int .i64 q] 28)) := (Below.refl _ _).alloc (Nat.le_refl _) _
    replace X5 := X5.next D7
    replace BL5 := below_step BL5 D7
    clear D7
    generalize w6.alloc (.cells #[.slice A n c, .int .i64 q] 28) = V at *
    generalize w6.heap.size = g7 at *
    obtain ⟨h0, h1⟩ := X5.two
    have KB2 : Hid (∀ (W : World) A1 n1 c1, Below V.heap.size V W → Lim W A1 n1 c1 (limbs d) → Calls Try.prog 14 #[wds A n c 0, .slice A1 n1 c1] W fun e w' => ∃ A' n' c', e = .returned (.tuple #[.slice A' n' c', .agg #[.slice A n c, .int .i64 q], .int .i64 er]) ∧ Lim w' A' n' c' (limbs v) ∧ Below W.heap.size W w') := fun W A1 n1 c1 hb h1 => KB.out W A1 n1 c1 (below_step BL5 hb) h1
    have BL5 := Lib.hid BL5
    have X7 := Lib.hid X7
    have hz := X5.lt
    clear X5
    go_cut [9, 10, 11] (fun s9 s10 s11 wx => s11 = .int .i64 er ∧ NewB V v (.slice A n c) (.int .i64 q) s9 s10 wx)
    case first =>
      go_region_held3 (fun w' => w'.cell? ⟨g5, 0, none⟩ = some (.slice A n c) ∧ w'.cell? ⟨g5, 1, none⟩ = some (.int .i64 0))
        ((refine ⟨?_, ?_⟩ <;> (repeat (first | with_reducible exact h0 | with_reducible exact h1 | with_reducible refine keep_drew ?_ | with_reducible refine keep_alloc ?_ _ | with_reducible refine keep_set ?_ _ (by first | omega | (simp only [World.size_alloc, World.size_drew]; omega)) | with_reducible refine keep_cell (by assumption) ?_))))
        (first
          | (go_at_call 12; refine (KO.out _).mono ?_; rintro e z ⟨A8, n8, c8, rfl, L8, B8⟩; have q8 := B8.size; (try simp only [World.size_alloc, World.size_drew] at q8); (try ((first | have kk := boxc B8 | have kk := boxcd B8); obtain ⟨bx, bs⟩ := kk; (try simp only [World.size_drew] at bx bs); obtain ⟨k0, k1, k2, k3⟩ := bx.two_)))
          | (go_at_call 14; refine (KB2.out _ _ _ _ ?_ (by first | assumption | exact Lim.alloc (by assumption) _)).mono ?_; (· repeat (first | with_reducible exact Below.refl _ _ | with_reducible exact (Below.refl _ _).drew | with_reducible refine below_al ?_ _ | with_reducible refine Below.drew ?_ | refine below_step ?_ (by assumption))); rintro e z2 ⟨A9, n9, c9, rfl, L9, B9⟩; have q9 := B9.size; (try simp only [World.size_alloc, World.size_drew] at q9); first | ((first | have jj := boxc B9 | have jj := boxcd B9); obtain ⟨by_, bt⟩ := jj; (try simp only [World.size_drew] at by_ bt); obtain ⟨j0, j1, j2, j3⟩ := by_.two_) | (have by_ := bx.next B9; have bt := by_.lt; obtain ⟨j0, j1, j2, j3⟩ := by_.two_) | skip))
      all_goals go_wp2_with fail
      all_goals go_meet
      all_goals go_light
      all_goals refine ⟨rfl, ?_⟩
      all_goals first
        | refine newB_last (by assumption) ?_
        | refine newB_set (by assumption) by_ (by first | omega | (simp only [World.size_alloc, World.size_drew]; omega)) ?_
      all_goals (repeat (first | with_reducible exact Below.refl _ _ | with_reducible exact (Below.refl _ _).drew | with_reducible refine below_al ?_ _ | with_reducible refine Below.drew ?_ | refine below_step ?_ (by assumption)))
    case rest =>
      obtain ⟨rfl, b, A9, n9, c9, rfl, rfl, LM, BX, HB⟩ := hcut
      have B5 := below_step BL5.out HB
      have X7 := X7.out.next HB
      clear HB KB KB2 K1
      have qq : ((q : Int) == q) = true := by simp
      have ee : ((er : Int) == er) = true := by simp
      have hq : ((er : Int) == 0) = true ∨ ((er : Int) == 0) = false ∧ ((q : Int) == 0) = true := by
        rcases hqe.out with e | e
        · exact Or.inl (by rw [e]; decide)
        · by_cases k : er = 0
          · exact Or.inl (by rw [k]; decide)
          · exact Or.inr ⟨by simpa using k, by rw [e]; decide⟩
      go_wp2_with fail
      refine (KV.out _).mono ?_
      rintro e w8 ⟨A8, n8, c8, rfl, L8, B8⟩
      have LM := LM.next B8
      replace BX := BX.next B8
      replace X7 := X7.next B8
      replace B5 := below_step B5 B8
      clear B8
      go_wp2_with fail
      have KS := same_bel LM L8
      rw [sameB_yes] at KS
      refine KS.mono ?_
      rintro e w9 ⟨rfl, B9⟩
      replace BX := BX.next B9
      replace X7 := X7.next B9
      replace B5 := below_step B5 B9
      clear B9 KS LM L8
      obtain ⟨h0, h1⟩ := X7.two
      obtain ⟨i0, i1⟩ := BX.two
      rcases hq with hq | ⟨hq, hq2⟩
      · go_wp2_with fail
        refine (KA.out _).mono ?_
        rintro e w10 ⟨rfl, B10⟩
        go_wp2_with fail
        go_ret
        exact ⟨rfl, below_step B5 B10⟩
      · go_wp2_with fail
        refine (KA.out _).mono ?_
        rintro e w10 ⟨rfl, B10⟩
        go_wp2_with fail
        go_ret
        exact ⟨rfl, below_step B5 B10⟩

set_option maxRecDepth 100000 in
theorem lifted (os : Os) (started : os.Started) (H : Type) (enc : TypeId × Value → H) :
    ReturnsInHanded {} Try.checked os 5 .any (Rows.drawBothSpec.pre6 enc Try.prog Try.f5 Rows.drawBothRow.domain false) (Rows.drawBothSpec.post enc Try.prog Try.f5 false true false false) := by
  refine returnsInHanded_of_change (C := Try.checked) own started (by kernel_rfl) Try.func5
    (ChangeSpec.witness6 (enc := enc) (C := Try.checked) false ⟨#[], #[.slice none 0 0, .int .u64 0], []⟩ 8 (by kernel_rfl) (by kernel_rfl) (by kernel_rfl) (by kernel_rfl)) ?_
  intro W base args ds gs before hval0 hW hcnd _
  have hval : ∀ (j : Nat) t v, Try.f5.params[j]? = some t → args[j]? = some v → Value.okWide Try.prog W .any base t v := hval0
  have hW' := hW
  obtain ⟨p, q, hA0, hV, rfl, _, _⟩ := hW
  have hA : DataW.TrodAll enc Try.prog W 0 (fun _ => true) true Try.f5.params.toList args.toList ds p := hA0
  rw [Try.params5] at hA hval
  obtain ⟨v0, v1, d0, d1, p0, p1, rfl, rfl, rfl, h0t, h1t⟩ := trodAll_two hA
  obtain ⟨rfl, rfl⟩ := trodVars_none hV
  obtain ⟨A0, n0, c0, xs0, rfl, hs0⟩ := open_words (hval 0 22 v0 rfl rfl) h0t
  obtain ⟨n1, rfl, hn1⟩ := open_u64 (hval 1 23 v1 rfl rfl) h1t
  clear hA0 hval0
  simp only [List.append_nil] at hW'
  have hlt : ∀ x ∈ p0 ++ p1, x.block < W.heap.size := fun x hx => by simpa using hW'.lt x (by simpa using hx)
  refine (walk A0 n0 c0 n1 xs0 W hs0 hn1).mono fun e W' ⟨he, hbl⟩ => ?_
  subst he
  refine ⟨_, rfl, post_args hW' (fun _ _ _ => trodAll_mk1 (shut_bool Try.underlying4 _)) ?_ (fun _ => rfl) hbl⟩
  have t0 := Below.trod laidOut readable_words typed_words h0t hbl (fun x hx => hlt x (List.mem_append_left _ hx))
  have t1 := Below.trod laidOut readable_u64 typed_u64 h1t hbl (fun x hx => hlt x (List.mem_append_right _ hx))
  exact trodAll_mk2 t0 t1

theorem proved : Rows.DrawBothSaid :=
  OpenClaim.holds_of_wide 5 Try.f5 rfl rfl rfl rfl rfl rfl rfl ⟨rfl, rfl, rfl, rfl, rfl⟩ rfl rfl rfl rfl rfl (by kernel_rfl) Try.func5 (by kernel_rfl)
    (of_decide_eq_true (by kernel_rfl)) (by unfold Func.isWrapper; first | (rw [if_pos (by decide +kernel)]; kernel_rfl) | (rw [if_neg (by decide +kernel)]; exact ⟨rfl, rfl⟩))
    (fun os started H enc _ => lifted os started H enc)
#print axioms proved
end Go.Proofs.Ythhphbaimpcjfaa.drawBoth
