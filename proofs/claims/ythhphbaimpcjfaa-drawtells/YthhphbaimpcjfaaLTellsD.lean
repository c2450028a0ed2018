/- For any words, place, number and limbs the law DrawTells answers true: what the words give, below the number and below the limbs, and how many of them are taken, is what the document says, or refused. No condition. -/
import Derived.Test.YthhphbaimpcjfaaDNB
namespace Go.Proofs.Ythhphbaimpcjfaa.drawTells
open Go.ChangeShapes Go.WideShapes Go.ChangeAt Go.RowKit
open Go.Proofs.Ythhphbaimpcjfaa
set_option linter.unusedVariables false
set_option linter.unusedSimpArgs false

set_option maxHeartbeats 4000000 in
set_option maxRecDepth 100000 in
theorem walk (A Ab : Option Addr) (n c nb cb d : Nat) (p : Int) (xs bs : List Nat) (w : World) (HL : Wl w A n c xs) (HB : Lim w Ab nb cb bs) (hd : d < 18446744073709551616) (hp : -9223372036854775808 ≤ p ∧ p ≤ 9223372036854775807) : Calls Try.prog 3 #[.slice A n c, .int .i64 p, .int .u64 (d : Int), .slice Ab nb cb] w fun e w' => e = .returned (.bool true) ∧ Below w.heap.size w w' := by
  by_cases big : 60 < n
  · have b1 : (60 : Int) < n := by omega
    clear HL HB hp
    go_enter Try.func3, Try.ntmps3
    go_wp2_with fail
    refine (awake_any _).mono ?_
    rintro e y ⟨rfl, hy⟩
    go_wp2_with fail
    go_ret
    exact ⟨rfl, hy⟩
  by_cases big2 : 70 < nb
  · have b1 : ¬ (60 : Int) < n := by omega
    have b2 : (70 : Int) < nb := by omega
    clear HL HB hp
    go_enter Try.func3, Try.ntmps3
    go_wp2_with fail
    refine (awake_any _).mono ?_
    rintro e y ⟨rfl, hy⟩
    go_wp2_with fail
    go_ret
    exact ⟨rfl, hy⟩
  · have b1 : ¬ (60 : Int) < n := by omega
    have b2 : ¬ (70 : Int) < nb := by omega
    have hn9 : n ≤ 9223372036854775807 := by omega
    obtain ⟨⟨v, q, er⟩, hX⟩ : ∃ x, x = ans xs p d := ⟨_, rfl⟩
    obtain ⟨⟨v2, q2, er2⟩, hZ⟩ : ∃ x, x = ansN xs p bs := ⟨_, rfl⟩
    have hv : v < 18446744073709551616 := by
      have := ans_lt xs p d
      rw [← hX] at this
      have this : v < d ∨ v = 0 := this
      omega
    have K1 : Hid (∀ W, Below w.heap.size w W → Calls Try.prog 10 #[wds A n c p, .int .u64 (d : Int)] W fun e w' => e = .returned (.tuple #[.int .u64 (v : Int), .agg #[.slice A n c, .int .i64 q], .int .i64 er]) ∧ Below W.heap.size W w') := fun W hb => by
      have := below_any A n c d p xs W (HL.next hb) hd
      rw [← hX] at this
      exact this
    have KO := Lib.hid (refOf_any d hd)
    have KB : Hid (∀ (W : World) A1 n1 c1, Below w.heap.size w W → Lim W A1 n1 c1 (limbs d) → Calls Try.prog 11 #[wds A n c p, .slice A1 n1 c1] W fun e w' => ∃ A' n' c', e = .returned (.tuple #[.slice A' n' c', .agg #[.slice A n c, .int .i64 q], .int .i64 er]) ∧ Lim w' A' n' c' (limbs v) ∧ Below W.heap.size W w') := fun W A1 n1 c1 hb h1 => by
      have := refBelow_any (p := p) (HL.next hb) h1
      rw [ansN_limbs (ln_word hd), ← hX] at this
      exact this
    have K3 : Hid (∀ W, Below w.heap.size w W → Calls Try.prog 14 #[wds A n c p, .slice Ab nb cb] W fun e w' => ∃ A' n' c', e = .returned (.tuple #[.slice A' n' c', .agg #[.slice A n c, .int .i64 q2], .int .i64 er2]) ∧ Lim w' A' n' c' (limbs v2) ∧ Below W.heap.size W w') := fun W hb => by
      have := belowNat_any (p := p) (HL.next hb) (HB.next hb)
      rw [← hZ] at this
      exact this
    have K4 : Hid (∀ W, Below w.heap.size w W → Calls Try.prog 11 #[wds A n c p, .slice Ab nb cb] W fun e w' => ∃ A' n' c', e = .returned (.tuple #[.slice A' n' c', .agg #[.slice A n c, .int .i64 q2], .int .i64 er2]) ∧ Lim w' A' n' c' (limbs v2) ∧ Below W.heap.size W w') := fun W hb => by
      have := refBelow_any (p := p) (HL.next hb) (HB.next hb)
      rw [← hZ] at this
      exact this
    have KA := Lib.hid awake_any
    have KL := Lib.hid (left_any A n c p hn9)
    have KU : Hid (∀ (W : World) A1 n1 c1, Lim W A1 n1 c1 (limbs v) → Calls Try.prog 13 #[.slice A1 n1 c1] W fun e w' => e = .returned (wd v) ∧ W = w') := fun W A1 n1 c1 h1 => number_any h1 hv
    have hp := Lib.hid hp
    clear HL HB hX hZ hd hv big big2 hn9
    obtain ⟨g5, hg⟩ : ∃ g, w.heap.size = g := ⟨_, rfl⟩
    have M := Two.new w #[.slice A n c, .int .i64 p] #[.slice A n c, .int .i64 p] 28 29
    rw [hg] at M
    go_enter Try.func3, Try.ntmps3
    go_upto_region 5 with fail
    clear hg
    generalize (w.alloc (.cells #[.slice A n c, .int .i64 p] 28)).alloc (.cells #[.slice A n c, .int .i64 p] 29) = w5 at *
    generalize g5 + 1 = g6 at *
    have BL := M.bl
    have X5 := M.bg
    have X6 := M.br
    clear M
    obtain ⟨h0, h1⟩ := X5.two
    go_wp2_with fail
    refine (K1.out _ BL).mono ?_
    rintro e w6 ⟨rfl, B6⟩
    replace X5 := X5.next B6
    replace X6 := X6.next B6
    replace BL := below_step BL B6
    clear B6 h0 h1
    go_upto_region 6 with fail
    have X7 := Box.new w6 #[.slice A n c, .int .i64 q] 28
    have D7 : Below w6.heap.size w6 (w6.alloc (.cells #[.slice A n c, .int .i64 q] 28)) := (Below.refl _ _).alloc (Nat.le_refl _) _
    replace X5 := X5.next D7
    replace X6 := X6.next D7
    replace BL := below_step BL D7
    clear D7
    generalize w6.alloc (.cells #[.slice A n c, .int .i64 q] 28) = V at *
    generalize w6.heap.size = g7 at *
    obtain ⟨h0, h1⟩ := X6.two
    have hz := X6.lt
    have KB2 : Hid (∀ (W : World) A1 n1 c1, Below V.heap.size V W → Lim W A1 n1 c1 (limbs d) → Calls Try.prog 11 #[wds A n c p, .slice A1 n1 c1] W fun e w' => ∃ A' n' c', e = .returned (.tuple #[.slice A' n' c', .agg #[.slice A n c, .int .i64 q], .int .i64 er]) ∧ Lim w' A' n' c' (limbs v) ∧ Below W.heap.size W w') := fun W A1 n1 c1 hb h1 => KB.out W A1 n1 c1 (below_step BL hb) h1
    have BL5 := Lib.hid BL
    have X7 := Lib.hid X7
    have X5 := Lib.hid X5
    have X6 := Lib.hid X6
    clear BL
    go_cut [14, 15, 16] (fun s9 s10 s11 wx => s11 = .int .i64 er ∧ NewB V v (.slice A n c) (.int .i64 q) s9 s10 wx)
    case first =>
      go_region_held3 (fun w' => w'.cell? ⟨g6, 0, none⟩ = some (.slice A n c) ∧ w'.cell? ⟨g6, 1, none⟩ = some (.int .i64 p))
        ((refine ⟨?_, ?_⟩ <;> (repeat (first | with_reducible exact h0 | with_reducible exact h1 | with_reducible refine keep_drew ?_ | with_reducible refine keep_alloc ?_ _ | with_reducible refine keep_set ?_ _ (by first | omega | (simp only [World.size_alloc, World.size_drew]; omega)) | with_reducible refine keep_cell (by assumption) ?_))))
        (first
          | (go_at_call 12; refine (KO.out _).mono ?_; rintro e z ⟨A8, n8, c8, rfl, L8, B8⟩; have q8 := B8.size; (try simp only [World.size_alloc, World.size_drew] at q8); (try ((first | have kk := boxc B8 | have kk := boxcd B8); obtain ⟨bx, bs⟩ := kk; (try simp only [World.size_drew] at bx bs); obtain ⟨k0, k1, k2, k3⟩ := bx.two_)))
          | (go_at_call 11; refine (KB2.out _ _ _ _ ?_ (by first | assumption | exact Lim.alloc (by assumption) _)).mono ?_; (· repeat (first | with_reducible exact Below.refl _ _ | with_reducible exact (Below.refl _ _).drew | with_reducible refine below_al ?_ _ | with_reducible refine Below.drew ?_ | refine below_step ?_ (by assumption))); rintro e z2 ⟨A9, n9, c9, rfl, L9, B9⟩; have q9 := B9.size; (try simp only [World.size_alloc, World.size_drew] at q9); first | ((first | have jj := boxc B9 | have jj := boxcd B9); obtain ⟨by_, bt⟩ := jj; (try simp only [World.size_drew] at by_ bt); obtain ⟨j0, j1, j2, j3⟩ := by_.two_) | (have by_ := bx.next B9; have bt := by_.lt; obtain ⟨j0, j1, j2, j3⟩ := by_.two_) | skip))
      all_goals go_wp2_with fail
      all_goals go_meet
      all_goals go_light
      all_goals refine ⟨rfl, ?_⟩
      all_goals first
        | refine newB_last (by assumption) ?_
        | refine newB_set (by assumption) by_ (by first | omega | (simp only [World.size_alloc, World.size_drew]; omega)) ?_
      all_goals (repeat (first | with_reducible exact Below.refl _ _ | with_reducible exact (Below.refl _ _).drew | with_reducible refine below_al ?_ _ | with_reducible refine Below.drew ?_ | refine below_step ?_ (by assumption)))
    case rest =>
      obtain ⟨rfl, b, A9, n9, c9, rfl, rfl, LM, BX, HB⟩ := hcut
      have BL := below_step BL5.out HB
      have X7 := X7.out.next HB
      have X5 := X5.out.next HB
      have X6 := X6.out.next HB
      clear HB KB KB2 K1 BL5 hz h0 h1 KO
      have qq : ((q : Int) != q) = false := by simp
      have ee : ((er : Int) != er) = false := by simp
      have vv : ((v : Int) != v) = false := by simp
      obtain ⟨h0, h1⟩ := X7.two
      obtain ⟨i0, i1⟩ := BX.two
      go_wp2_with fail
      refine (KU.out _ _ _ _ LM).mono ?_
      rintro e w8 ⟨rfl, rfl⟩
      go_upto_region 9 with fail
      clear h0 h1 i0 i1 qq ee vv LM BX X7 KU
      obtain ⟨h0, h1⟩ := X5.two
      go_wp2_with fail
      refine (K3.out _ BL).mono ?_
      rintro e w9 ⟨A1, n1, c1, rfl, L1, B9⟩
      replace X5 := X5.next B9
      replace X6 := X6.next B9
      replace BL := below_step BL B9
      clear B9 h0 h1 K3
      go_upto_region 10 with fail
      have X18 := Box.new w9 #[.slice A n c, .int .i64 q2] 28
      have D9 : Below w9.heap.size w9 (w9.alloc (.cells #[.slice A n c, .int .i64 q2] 28)) := (Below.refl _ _).alloc (Nat.le_refl _) _
      replace X5 := X5.next D9
      replace X6 := X6.next D9
      replace L1 := L1.next D9
      replace BL := below_step BL D9
      clear D9
      generalize w9.alloc (.cells #[.slice A n c, .int .i64 q2] 28) = w10 at *
      generalize w9.heap.size = g18 at *
      obtain ⟨h0, h1⟩ := X6.two
      go_wp2_with fail
      refine (K4.out _ BL).mono ?_
      rintro e w11 ⟨A2, n2, c2, rfl, L2, B11⟩
      replace X5 := X5.next B11
      replace X18 := X18.next B11
      replace L1 := L1.next B11
      replace BL := below_step BL B11
      clear B11 h0 h1 K4 X6
      go_upto_region 11 with fail
      have X21 := Box.new w11 #[.slice A n c, .int .i64 q2] 29
      have D11 : Below w11.heap.size w11 (w11.alloc (.cells #[.slice A n c, .int .i64 q2] 29)) := (Below.refl _ _).alloc (Nat.le_refl _) _
      replace X5 := X5.next D11
      replace X18 := X18.next D11
      replace L1 := L1.next D11
      replace L2 := L2.next D11
      replace BL := below_step BL D11
      clear D11
      generalize w11.alloc (.cells #[.slice A n c, .int .i64 q2] 29) = w12 at *
      generalize w11.heap.size = g21 at *
      have KS := same_bel L1 L2
      rw [sameB_yes] at KS
      have KS := Lib.hid KS
      clear L1 L2
      have qq : ((q2 : Int) == q2) = true := by simp
      have ee : ((er2 : Int) == er2) = true := by simp
      by_cases hp0 : 0 ≤ p
      · by_cases hp1 : p ≤ (n : Int)
        · have EL : Hid (left p n = (n : Int) - p) := by unfold Hid left; rw [if_pos (okB_yes ⟨hp0, hp1⟩)]
          have zz : (((n : Int) - p) == ((n : Int) - p)) = true := by simp
          go_wp2_with fail
          refine KS.out.mono ?_
          rintro e w20 ⟨rfl, B20⟩
          replace X5 := X5.next B20
          replace X18 := X18.next B20
          replace X21 := X21.next B20
          replace BL := below_step BL B20
          clear B20 KS
          obtain ⟨h0, h1⟩ := X5.two
          obtain ⟨i0, i1⟩ := X18.two
          obtain ⟨j0, j1⟩ := X21.two
          go_wp2_with fail
          refine (KL.out _).mono ?_
          rintro e w21 ⟨rfl, B21⟩
          replace BL := below_step BL B21
          clear B21
          rw [EL.out]
          go_wp2_with fail
          refine (KA.out _).mono ?_
          rintro e w22 ⟨rfl, B22⟩
          go_wp2_with fail
          go_ret
          exact ⟨rfl, below_step BL B22⟩
        · have EL : Hid (left p n = 0) := by unfold Hid left; rw [if_neg (by rw [okB_no (by omega)]; decide)]
          go_wp2_with fail
          refine KS.out.mono ?_
          rintro e w20 ⟨rfl, B20⟩
          replace X5 := X5.next B20
          replace X18 := X18.next B20
          replace X21 := X21.next B20
          replace BL := below_step BL B20
          clear B20 KS
          obtain ⟨h0, h1⟩ := X5.two
          obtain ⟨i0, i1⟩ := X18.two
          obtain ⟨j0, j1⟩ := X21.two
          go_wp2_with fail
          refine (KL.out _).mono ?_
          rintro e w21 ⟨rfl, B21⟩
          replace BL := below_step BL B21
          clear B21
          rw [EL.out]
          go_wp2_with fail
          refine (KA.out _).mono ?_
          rintro e w22 ⟨rfl, B22⟩
          go_wp2_with fail
          go_ret
          exact ⟨rfl, below_step BL B22⟩
      · have EL : Hid (left p n = 0) := by unfold Hid left; rw [if_neg (by rw [okB_no (by omega)]; decide)]
        go_wp2_with fail
        refine KS.out.mono ?_
        rintro e w20 ⟨rfl, B20⟩
        replace X5 := X5.next B20
        replace X18 := X18.next B20
        replace X21 := X21.next B20
        replace BL := below_step BL B20
        clear B20 KS
        obtain ⟨h0, h1⟩ := X5.two
        obtain ⟨i0, i1⟩ := X18.two
        obtain ⟨j0, j1⟩ := X21.two
        go_wp2_with fail
        refine (KL.out _).mono ?_
        rintro e w21 ⟨rfl, B21⟩
        replace BL := below_step BL B21
        clear B21
        rw [EL.out]
        go_wp2_with fail
        refine (KA.out _).mono ?_
        rintro e w22 ⟨rfl, B22⟩
        go_wp2_with fail
        go_ret
        exact ⟨rfl, below_step BL B22⟩

set_option maxRecDepth 100000 in
theorem lifted (os : Os) (started : os.Started) (H : Type) (enc : TypeId × Value → H) :
    ReturnsInHanded {} Try.checked os 3 .any (Rows.drawTellsSpec.pre6 enc Try.prog Try.f3 Rows.drawTellsRow.domain false) (Rows.drawTellsSpec.post enc Try.prog Try.f3 false true false false) := by
  refine returnsInHanded_of_change (C := Try.checked) own started (by kernel_rfl) Try.func3
    (ChangeSpec.witness6 (enc := enc) (C := Try.checked) false ⟨#[], #[.slice none 0 0, .int .i64 0, .int .u64 0, .slice none 0 0], []⟩ 8 (by kernel_rfl) (by kernel_rfl) (by kernel_rfl) (by kernel_rfl)) ?_
  intro W base args ds gs before hval0 hW hcnd _
  have hval : ∀ (j : Nat) t v, Try.f3.params[j]? = some t → args[j]? = some v → Value.okWide Try.prog W .any base t v := hval0
  have hW' := hW
  obtain ⟨p, q, hA0, hV, rfl, _, _⟩ := hW
  have hA : DataW.TrodAll enc Try.prog W 0 (fun _ => true) true Try.f3.params.toList args.toList ds p := hA0
  rw [Try.params3] at hA hval
  obtain ⟨v0, v1, v2, v3, d0, d1, d2, d3, p0, p1, p2, p3, rfl, rfl, rfl, h0t, h1t, h2t, h3t⟩ := trodAll_four hA
  obtain ⟨rfl, rfl⟩ := trodVars_none hV
  obtain ⟨A0, n0, c0, xs0, rfl, hs0⟩ := open_words (hval 0 22 v0 rfl rfl) h0t
  obtain ⟨x1, rfl, hx1⟩ := open_i64 (hval 1 3 v1 rfl rfl) h1t
  obtain ⟨n2, rfl, hn2⟩ := open_u64 (hval 2 23 v2 rfl rfl) h2t
  obtain ⟨A3, n3, c3, xs3, rfl, hs3⟩ := open_nat (hval 3 25 v3 rfl rfl) h3t
  clear hA0 hval0
  simp only [List.append_nil] at hW'
  have hlt : ∀ x ∈ p0 ++ p1 ++ p2 ++ p3, x.block < W.heap.size := fun x hx => by simpa using hW'.lt x (by simpa using hx)
  refine (walk A0 A3 n0 c0 n3 c3 n2 x1 xs0 xs3 W hs0 hs3 hn2 hx1).mono fun e W' ⟨he, hbl⟩ => ?_
  subst he
  refine ⟨_, rfl, post_args hW' (fun _ _ _ => trodAll_mk1 (shut_bool Try.underlying4 _)) ?_ (fun _ => rfl) hbl⟩
  have t0 := Below.trod laidOut readable_words typed_words h0t hbl (fun x hx => hlt x (List.mem_append_left _ (List.mem_append_left _ (List.mem_append_left _ hx))))
  have t1 := Below.trod laidOut readable_int typed_int h1t hbl (fun x hx => hlt x (List.mem_append_left _ (List.mem_append_left _ (List.mem_append_right _ hx))))
  have t2 := Below.trod laidOut readable_u64 typed_u64 h2t hbl (fun x hx => hlt x (List.mem_append_left _ (List.mem_append_right _ hx)))
  have t3 := Below.trod laidOut readable_nat typed_nat h3t hbl (fun x hx => hlt x (List.mem_append_right _ hx))
  exact (show p0 ++ (p1 ++ (p2 ++ p3)) = p0 ++ p1 ++ p2 ++ p3 by simp only [List.append_assoc]) ▸ trodAll_mk4 t0 t1 t2 t3

theorem proved : Rows.DrawTellsSaid :=
  OpenClaim.holds_of_wide 3 Try.f3 rfl rfl rfl rfl rfl rfl rfl ⟨rfl, rfl, rfl, rfl, rfl⟩ rfl rfl rfl rfl rfl (by kernel_rfl) Try.func3 (by kernel_rfl)
    (of_decide_eq_true (by kernel_rfl)) (by unfold Func.isWrapper; first | (rw [if_pos (by decide +kernel)]; kernel_rfl) | (rw [if_neg (by decide +kernel)]; exact ⟨rfl, rfl⟩))
    (fun os started H enc _ => lifted os started H enc)
#print axioms proved
end Go.Proofs.Ythhphbaimpcjfaa.drawTells
