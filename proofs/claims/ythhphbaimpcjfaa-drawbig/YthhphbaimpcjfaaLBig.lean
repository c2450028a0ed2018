/- For any words the law DrawBig answers true: below a natural of more than 64 bits as many words are taken as its bits take; below the 128th power of 2 the number is both words. No condition. -/
import Derived.Test.YthhphbaimpcjfaaDO
import Derived.Test.YthhphbaimpcjfaaWalkY
namespace Go.Proofs.Ythhphbaimpcjfaa.drawBig
open Go.ChangeShapes Go.WideShapes Go.ChangeAt Go.RowKit
open Go.Proofs.Ythhphbaimpcjfaa
set_option linter.unusedVariables false
set_option linter.unusedSimpArgs false

theorem lim_three (w : World) : Lim (w.alloc (.cells #[.int .u32 0, .int .u32 0, .int .u32 1] 48)) (some ⟨w.heap.size, 0, none⟩) 3 3 [0, 0, 1] :=
  (Row.new w [0, 0, 1] (.cons (by decide) (.cons (by decide) (.cons (by decide) .nil)))).lim (o := 0) (n := 3) (c := 3) (by simp) (by omega) (by omega)
theorem val_three : val [0, 0, 1] = 18446744073709551616 := by
  rw [val_cons, val_cons, val_cons, val_nil, B_eq]
theorem lim_small {w : World} {A : Option Addr} {n c x : Nat} (h : Lim w A n c (limbs x)) (hx : x < 18446744073709551616 * 18446744073709551616) : n ≤ 100000 := by
  rw [← h.len, limbs_length]
  exact Nat.le_trans (ln_le (k := 4) (by rw [B_eq]; omega)) (by decide)
theorem mul_w {W : World} {A A' : Option Addr} {n c c' x : Nat} (h1 : Lim W A n c (limbs x)) (hx : x < 18446744073709551616) (h2 : Lim W A' 3 c' [0, 0, 1]) : Calls Try.prog 18 #[.slice A n c, .slice A' 3 c'] W fun e w' => RetN (x * 18446744073709551616) W e w' := by
  have := refMul_any h1 h2 (lim_small h1 (by omega)) (by decide)
  rwa [val_limbs, val_three] at this
theorem add_w {W : World} {A A' : Option Addr} {n c n' c' h l : Nat} (h1 : Lim W A n c (limbs l)) (hl : l < 18446744073709551616) (h2 : Lim W A' n' c' (limbs (h * 18446744073709551616))) (hh : h < 18446744073709551616) : Calls Try.prog 17 #[.slice A n c, .slice A' n' c'] W fun e w' => RetN (h * 18446744073709551616 + l) W e w' := by
  have := refAdd_any h1 h2 (lim_small h1 (by omega)) (lim_small h2 (by omega))
  rwa [val_limbs, val_limbs, Nat.add_comm] at this
theorem lim_threed (w : World) : Lim (w.drew.alloc (.cells #[.int .u32 0, .int .u32 0, .int .u32 1] 48)) (some ⟨w.heap.size, 0, none⟩) 3 3 [0, 0, 1] := lim_three w.drew
theorem val_five : val [0, 0, 0, 0, 1] = 340282366920938463463374607431768211456 := by
  rw [val_cons, val_cons, val_cons, val_cons, val_cons, val_nil, B_eq]
theorem nt_five : Nt [0, 0, 0, 0, 1] := ⟨by decide, fun _ => by simp⟩
theorem lo_five : Lo [0, 0, 0, 0, 1] := .cons (by decide) (.cons (by decide) (.cons (by decide) (.cons (by decide) (.cons (by decide) .nil))))
theorem lim_five (w : World) : Lim (w.alloc (.cells #[.int .u32 0, .int .u32 0, .int .u32 0, .int .u32 0, .int .u32 1] 48)) (some ⟨w.heap.size, 0, none⟩) 5 5 [0, 0, 0, 0, 1] :=
  (Row.new w [0, 0, 0, 0, 1] lo_five).lim (o := 0) (n := 5) (c := 5) (by simp) (by omega) (by omega)
theorem mb_128 : mb 340282366920938463463374607431768211456 = 128 := by unfold mb; exact bl_of (k := 127) (by decide) (by decide)
theorem mw_128 : mw 340282366920938463463374607431768211456 = 2 := by unfold mw; rw [mb_128]
theorem ans_few {W : List Nat} (h : W.length < 2) : ansN W 0 [0, 0, 0, 0, 1] = (0, 0, 8) := by
  rw [ansN_yes nt_five, val_five]
  refine ans_dry (p := 0) (by decide) (Nat.zero_le _) ?_
  rw [mw_128, tries_dry (by omega)]
theorem att_two {W : List Nat} (lo : Lw W) (h : 1 < W.length) : att W 2 128 0 = W[1] * 18446744073709551616 + W[0]'(by omega) := by
  unfold att
  have e : (W.drop 0).take 2 = [W[0]'(by omega), W[1]] := by
    rw [List.drop_zero]
    obtain ⟨a, r, rfl⟩ : ∃ a r, W = a :: r := by cases W with | nil => simp at h | cons a r => exact ⟨a, r, rfl⟩
    obtain ⟨b, r2, rfl⟩ : ∃ b r2, r = b :: r2 := by cases r with | nil => simp at h | cons b r2 => exact ⟨b, r2, rfl⟩
    rfl
  have b0 := lo.at_ 0 (by omega)
  have b1 := lo.at_ 1 h
  rw [e, wv_cons, wv_cons, wv_nil, P64_eq, show (2 : Nat) ^ 128 = 340282366920938463463374607431768211456 from by decide]
  omega
theorem ans_two {W : List Nat} (lo : Lw W) (h : 1 < W.length) : ansN W 0 [0, 0, 0, 0, 1] = (W[1] * 18446744073709551616 + W[0]'(by omega), 2, 0) := by
  have b0 := lo.at_ 0 (by omega)
  have b1 := lo.at_ 1 h
  rw [ansN_yes nt_five, val_five]
  refine ans_hit (p := 0) (by decide) (Nat.zero_le _) ?_
  have e := att_two lo h
  rw [mw_128, mb_128, tries_hit (by omega) (by rw [e]; omega), e]
set_option maxHeartbeats 4000000 in
set_option maxRecDepth 100000 in
theorem walk (A : Option Addr) (n c : Nat) (xs : List Nat) (w : World) (HL : Wl w A n c xs) : Calls Try.prog 8 #[.slice A n c] w fun e w' => e = .returned (.bool true) ∧ Below w.heap.size w w' := by
  by_cases big : 40 < n
  · have b1 : (40 : Int) < n := by omega
    clear HL
    go_enter Try.func8, Try.ntmps8
    go_wp2_with fail
    refine (awake_any _).mono ?_
    rintro e y ⟨rfl, hy⟩
    go_wp2_with fail
    go_ret
    exact ⟨rfl, hy⟩
  · have b1 : ¬ (40 : Int) < n := by omega
    have B0 := Lib.hid ((Below.refl w.heap.size w).alloc (Nat.le_refl _) (.cells #[.int .u32 0, .int .u32 0, .int .u32 0, .int .u32 0, .int .u32 1] 48))
    have KB := belowNat_any (p := 0) (HL.alloc (.cells #[.int .u32 0, .int .u32 0, .int .u32 0, .int .u32 0, .int .u32 1] 48)) (lim_five w)
    have HN := HL.len
    by_cases two : n < 2
    · have b2 : (n : Int) < 2 := by omega
      rw [ans_few (by omega)] at KB
      have KB := Lib.hid KB
      clear HL HN
      go_enter Try.func8, Try.ntmps8
      go_wp2_with fail
      refine KB.out.mono ?_
      rintro e w1 ⟨A1, n1, c1, rfl, L1, B1⟩
      replace B1 := below_step B0.out B1
      have X1 := Box.new w1 #[.slice A n c, .int .i64 0] 28
      have D1 : Below w1.heap.size w1 (w1.alloc (.cells #[.slice A n c, .int .i64 0] 28)) := (Below.refl _ _).alloc (Nat.le_refl _) _
      obtain ⟨c0, c1⟩ := X1.two
      go_wp2_with fail
      refine (awake_any _).mono ?_
      rintro e y ⟨rfl, hy⟩
      go_wp2_with fail
      go_ret
      exact ⟨rfl, below_step (below_step B1 D1) hy⟩
    · have b2 : ¬ (n : Int) < 2 := by omega
      have x1 : 1 < xs.length := by omega
      rw [ans_two HL.lo x1] at KB
      have KB := Lib.hid KB
      obtain ⟨ad, rfl, y0⟩ := HL.at_ 0 (by omega)
      have y1 := HL.cell 1 x1
      have hl := HL.lo.at_ 0 (by omega)
      have hh := HL.lo.at_ 1 x1
      generalize xs[0]'(by omega) = l at *
      generalize xs[1] = h at *
      have H0 : Hid (w.cell? ad = some (.int .u64 (l : Int))) := by unfold Hid; simpa [Addr.add] using y0
      have H1 : Hid (w.cell? ⟨ad.block, ad.off + 1, none⟩ = some (.int .u64 (h : Int))) := by unfold Hid; simpa [Addr.add] using y1
      have n0 : (0 : Int) < n := by omega
      have n0' : 0 < n := by omega
      have n1 : (1 : Int) < n := by omega
      have n1' : 1 < n := by omega
      clear HL HN y0 y1 x1 big two
      go_enter Try.func8, Try.ntmps8
      go_wp2_with fail
      refine KB.out.mono ?_
      rintro e w1 ⟨A1, n1, c1, rfl, L1, B1⟩
      replace B1 := below_step B0.out B1
      have X1 := Box.new w1 #[.slice (some ad) n c, .int .i64 2] 28
      have D1 : Below w1.heap.size w1 (w1.alloc (.cells #[.slice (some ad) n c, .int .i64 2] 28)) := (Below.refl _ _).alloc (Nat.le_refl _) _
      go_upto_region 6 with fail
      have B2 := below_step B1 D1
      have L2 := L1.next D1
      clear D1 B1 L1 KB B0
      generalize w1.alloc (.cells #[.slice (some ad) n c, .int .i64 2] 28) = w2 at *
      generalize w1.heap.size = g1 at *
      have c0 := keep_cell B2 H0.out
      have c1 := keep_cell B2 H1.out
      clear H0 H1
      have KOl : Hid (∀ W, Calls Try.prog 12 #[.int .u64 (l : Int)] W fun e w' => RetN l W e w') := fun W => refOf_any l hl W
      have KOh : Hid (∀ W, Calls Try.prog 12 #[.int .u64 (h : Int)] W fun e w' => RetN h W e w') := fun W => refOf_any h hh W
      have KM : Hid (∀ (W : World) (G J : Option Addr) (g i j : Nat), Lim W G g i (limbs h) → Lim W J 3 j [0, 0, 1] → Calls Try.prog 18 #[.slice G g i, .slice J 3 j] W fun e w' => RetN (h * 18446744073709551616) W e w') := fun W G J g i j h1 h2 => mul_w h1 hh h2
      have KA : Hid (∀ (W : World) (G J : Option Addr) (g i j t : Nat), Lim W G g i (limbs l) → Lim W J j t (limbs (h * 18446744073709551616)) → Calls Try.prog 17 #[.slice G g i, .slice J j t] W fun e w' => RetN (h * 18446744073709551616 + l) W e w') := fun W G J g i j t h1 h2 => add_w h1 hl h2 hh
      clear hh hl
      generalize h * 18446744073709551616 + l = X at *
      generalize h * 18446744073709551616 = Y at *
      have HB2 := Lib.hid B2; have HL2 := Lib.hid L2; have HX1 := Lib.hid X1
      clear B2 L2 X1
      go_cut [6] (fun s6 wx => ∃ G g i, s6 = .slice G g i ∧ Lim wx G g i (limbs X) ∧ Below w2.heap.size w2 wx)
      case first =>
        go_region_held3 (fun W => W.cell? ad = some (.int .u64 (l : Int)) ∧ W.cell? ⟨ad.block, ad.off + 1, none⟩ = some (.int .u64 (h : Int)))
          ((refine ⟨?_, ?_⟩ <;> (repeat (first | with_reducible exact c0 | with_reducible exact c1 | with_reducible refine keep_drew ?_ | with_reducible refine keep_alloc ?_ _ | with_reducible refine keep_cell (by assumption) ?_))))
          (first
            | (go_at_call 12; (with_reducible refine (KOl.out _).mono ?_); rintro e r1 ⟨E1, e1, d1, rfl, L1, C1⟩)
            | (go_at_call 12; (with_reducible refine (KOh.out _).mono ?_); rintro e r2 ⟨E2, e2, d2, rfl, L2, C2⟩)
            | (go_at_call 18; refine (KM.out _ _ _ _ _ _ ?_ ?_).mono ?_; (· repeat (first | assumption | exact lim_three _ | exact lim_threed _ | with_reducible refine Lim.alloc ?_ _ | refine Lim.next ?_ (by assumption))); (· repeat (first | assumption | exact lim_three _ | exact lim_threed _ | with_reducible refine Lim.alloc ?_ _ | refine Lim.next ?_ (by assumption))); rintro e r3 ⟨E3, e3, d3, rfl, L3, C3⟩)
            | (go_at_call 17; refine (KA.out _ _ _ _ _ _ _ ?_ ?_).mono ?_; (· repeat (first | assumption | exact lim_three _ | exact lim_threed _ | with_reducible refine Lim.alloc ?_ _ | refine Lim.next ?_ (by assumption))); (· repeat (first | assumption | exact lim_three _ | exact lim_threed _ | with_reducible refine Lim.alloc ?_ _ | refine Lim.next ?_ (by assumption))); rintro e r4 ⟨E4, e4, d4, rfl, L4, C4⟩))
        all_goals go_wp2_with fail
        all_goals go_meet
        all_goals go_light
        all_goals refine ⟨_, _, _, rfl, by assumption, ?_⟩
        all_goals (repeat (first | with_reducible exact Below.refl _ _ | with_reducible exact (Below.refl _ _).drew | with_reducible refine below_al ?_ _ | with_reducible refine Below.drew ?_ | refine below_step ?_ (by assumption)))
      case rest =>
        obtain ⟨G, g, i, rfl, LX, BX⟩ := hcut
        have B3 := below_step HB2.out BX
        have L3 := HL2.out.next BX
        have X1 := HX1.out.next BX
        have KS := same_bel L3 LX
        rw [sameB_yes] at KS
        have KS := Lib.hid KS
        clear HB2 HL2 HX1 BX L3 LX c0 c1
        go_wp2_with fail
        refine KS.out.mono ?_
        rintro e w5 ⟨rfl, B5⟩
        replace X1 := X1.next B5
        replace B3 := below_step B3 B5
        clear B5 KS
        obtain ⟨c0, c1⟩ := X1.two
        go_wp2_with fail
        refine (awake_any _).mono ?_
        rintro e y ⟨rfl, hy⟩
        go_wp2_with fail
        go_ret
        exact ⟨rfl, below_step B3 hy⟩

set_option maxRecDepth 100000 in
theorem lifted (os : Os) (started : os.Started) (H : Type) (enc : TypeId × Value → H) :
    ReturnsInHanded {} Try.checked os 8 .any (Rows.drawBigSpec.pre6 enc Try.prog Try.f8 Rows.drawBigRow.domain false) (Rows.drawBigSpec.post enc Try.prog Try.f8 false true false false) := by
  refine returnsInHanded_of_change (C := Try.checked) own started (by kernel_rfl) Try.func8
    (ChangeSpec.witness6 (enc := enc) (C := Try.checked) false ⟨#[], #[.slice none 0 0], []⟩ 8 (by kernel_rfl) (by kernel_rfl) (by kernel_rfl) (by kernel_rfl)) ?_
  intro W base args ds gs before hval0 hW hcnd _
  have hval : ∀ (j : Nat) t v, Try.f8.params[j]? = some t → args[j]? = some v → Value.okWide Try.prog W .any base t v := hval0
  have hW' := hW
  obtain ⟨p, q, hA0, hV, rfl, _, _⟩ := hW
  have hA : DataW.TrodAll enc Try.prog W 0 (fun _ => true) true Try.f8.params.toList args.toList ds p := hA0
  rw [Try.params8] at hA hval
  obtain ⟨v0, d0, rfl, rfl, h0t⟩ := trodAll_one hA
  obtain ⟨rfl, rfl⟩ := trodVars_none hV
  obtain ⟨A0, n0, c0, xs0, rfl, hs0⟩ := open_words (hval 0 22 v0 rfl rfl) h0t
  clear hA0 hval0
  simp only [List.append_nil] at hW'
  have hlt : ∀ x ∈ p, x.block < W.heap.size := fun x hx => by simpa using hW'.lt x (by simpa using hx)
  refine (walk A0 n0 c0 xs0 W hs0).mono fun e W' ⟨he, hbl⟩ => ?_
  subst he
  refine ⟨_, rfl, post_args hW' (fun _ _ _ => trodAll_mk1 (shut_bool Try.underlying4 _)) ?_ (fun _ => rfl) hbl⟩
  have t0 := Below.trod laidOut readable_words typed_words h0t hbl (fun x hx => hlt x hx)
  exact trodAll_mk1 t0

theorem proved : Rows.DrawBigSaid :=
  OpenClaim.holds_of_wide 8 Try.f8 rfl rfl rfl rfl rfl rfl rfl ⟨rfl, rfl, rfl, rfl, rfl⟩ rfl rfl rfl rfl rfl (by kernel_rfl) Try.func8 (by kernel_rfl)
    (of_decide_eq_true (by kernel_rfl)) (by unfold Func.isWrapper; first | (rw [if_pos (by decide +kernel)]; kernel_rfl) | (rw [if_neg (by decide +kernel)]; exact ⟨rfl, rfl⟩))
    (fun os started H enc _ => lifted os started H enc)
#print axioms proved
end Go.Proofs.Ythhphbaimpcjfaa.drawBig
