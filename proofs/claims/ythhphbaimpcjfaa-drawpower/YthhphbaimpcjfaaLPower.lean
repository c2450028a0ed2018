/- For any words and any number the law DrawPower answers true: below a power of 2 the number is what the lowest bits of the first word are. No condition. -/
import Derived.Test.YthhphbaimpcjfaaDO
namespace Go.Proofs.Ythhphbaimpcjfaa.drawPower
open Go.ChangeShapes Go.WideShapes Go.ChangeAt Go.RowKit
open Go.Proofs.Ythhphbaimpcjfaa
set_option linter.unusedVariables false
set_option linter.unusedSimpArgs false

theorem mb_pow (b : Nat) (h : 0 < b) : mb (2 ^ b) = b := by
  unfold mb
  obtain ⟨c, rfl⟩ : ∃ c, b = c + 1 := ⟨b - 1, by omega⟩
  have p := Nat.two_pow_pos c
  have e : 2 ^ (c + 1) = 2 ^ c * 2 := Nat.pow_succ 2 c
  exact bl_of (by omega) (by omega)
theorem pow64 {b : Nat} (h : b < 64) : 2 ^ b < 18446744073709551616 := by
  have := Nat.pow_lt_pow_right (a := 2) (by decide) h
  rwa [show (2 : Nat) ^ 64 = 18446744073709551616 from by decide] at this
theorem one_pow {b : Nat} (h : 0 < b) : 1 < 2 ^ b := Nat.one_lt_two_pow (by omega)
theorem ans_one (W : List Nat) : ans W 0 1 = (0, 0, 0) := ans_hit (p := 0) (by decide) (Nat.zero_le _) (tries_one (Nat.zero_le _))
theorem ans_pow {W : List Nat} {b : Nat} (h0 : 0 < b) (hb : b < 64) (hl : 0 < W.length) : ans W 0 (2 ^ b) = (W[0] % 2 ^ b, 1, 0) := by
  have p := one_pow h0
  refine ans_hit (p := 0) (by omega) (Nat.zero_le _) ?_
  rw [mw_small p (Nat.le_of_lt (pow64 hb)), mb_pow b h0, tries_hit (by omega) (by rw [att_one hl]; exact Nat.mod_lt _ (by omega)), att_one hl]
theorem ans_nil {b : Nat} (h0 : 0 < b) (hb : b < 64) : ans [] 0 (2 ^ b) = (0, 0, 8) := by
  have p := one_pow h0
  refine ans_dry (p := 0) (by omega) (Nat.zero_le _) ?_
  rw [mw_small p (Nat.le_of_lt (pow64 hb)), tries_dry (by simp)]
theorem shl_num (b : Nat) (h : b < 64) : IntKind.u64.wrap ((2 : Int) ^ b) = ((2 ^ b : Nat) : Int) := by
  have e : (2 : Int) ^ b = ((2 ^ b : Nat) : Int) := by rw [Int.natCast_pow]; rfl
  have l := pow64 h
  rw [e, IntKind.wrap_u64]
  generalize 2 ^ b = z at *
  omega
set_option maxHeartbeats 4000000 in
set_option maxRecDepth 100000 in
theorem walk (A : Option Addr) (n c k : Nat) (xs : List Nat) (w : World) (HL : Wl w A n c xs) (hk : k < 256) : Calls Try.prog 7 #[.slice A n c, .int .u8 (k : Int)] w fun e w' => e = .returned (.bool true) ∧ Below w.heap.size w w' := by
  by_cases big : 40 < n
  · have b1 : (40 : Int) < n := by omega
    clear HL
    go_enter Try.func7, Try.ntmps7
    go_wp2_with fail
    refine (awake_any _).mono ?_
    rintro e y ⟨rfl, hy⟩
    go_wp2_with fail
    go_ret
    exact ⟨rfl, hy⟩
  · have b1 : ¬ (40 : Int) < n := by omega
    obtain ⟨b, hb⟩ : ∃ b, b = k % 64 := ⟨_, rfl⟩
    have e1 : (k : Int) % 64 = (b : Int) := by omega
    have e1t : (k : Int).tmod 64 = (b : Int) := by rw [← e1]; exact Int.tmod_eq_emod_of_nonneg (by omega)
    have b64 : b < 64 := by omega
    have e2 := shl_num b b64
    have d64 := pow64 b64
    have KB := Lib.hid (below_any A n c (2 ^ b) 0 xs w HL d64)
    have HN := Lib.hid HL.len
    by_cases h0 : b = 0
    · subst h0
      rw [Nat.pow_zero, ans_one] at KB
      rw [Nat.pow_zero] at e2
      clear hb d64 HL b64
      go_enter Try.func7, Try.ntmps7
      go_wp2_with fail
      refine KB.out.mono ?_
      rintro e w1 ⟨rfl, B1⟩
      have X := One.new w1 #[.slice A n c, .int .i64 0] 28
      obtain ⟨c0, c1⟩ := X.bg.two
      go_wp2_with fail
      refine (awake_any _).mono ?_
      rintro e w2 ⟨rfl, B2⟩
      go_wp2_with fail
      go_ret
      exact ⟨rfl, below_step (below_step B1 X.bl) B2⟩
    · have e0 : ((b : Int) == 0) = false := by simp; omega
      by_cases hn : n = 0
      · subst hn
        have : xs = [] := List.eq_nil_of_length_eq_zero HL.len
        subst this
        rw [ans_nil (by omega) b64] at KB
        generalize 2 ^ b = d at *
        clear hb HL h0
        go_enter Try.func7, Try.ntmps7
        go_wp2_with fail
        refine KB.out.mono ?_
        rintro e w1 ⟨rfl, B1⟩
        have X := One.new w1 #[.slice A 0 c, .int .i64 0] 28
        obtain ⟨c0, c1⟩ := X.bg.two
        go_wp2_with fail
        refine (awake_any _).mono ?_
        rintro e w2 ⟨rfl, B2⟩
        go_wp2_with fail
        go_ret
        exact ⟨rfl, below_step (below_step B1 X.bl) B2⟩
      · have hl : 0 < xs.length := by rw [HN.out]; omega
        have n0 : ((n : Int) == 0) = false := by simp; omega
        have n1 : (0 : Int) < n := by omega
        have n2 : 0 < n := by omega
        have n3 : ¬ n = 0 := by omega
        have n4 : ¬ n ≤ 0 := by omega
        rw [ans_pow (by omega) b64 hl] at KB
        obtain ⟨ad, rfl, cx⟩ := HL.at_ 0 hl
        have CX := Lib.hid cx
        have bx := HL.lo.at_ 0 hl
        have EA := u64_and_on xs[0] b bx (by omega)
        have eo : ((2 ^ b : Nat) : Int) - 1 = (on b : Int) := by
          have := Nat.two_pow_pos b
          rw [on_eq]; omega
        have ew : IntKind.u64.wrap (on b : Int) = (on b : Int) := by
          have := on_lt (k := b) (m := 64) (by omega)
          rw [show (2 : Nat) ^ 64 = 18446744073709551616 from by decide] at this
          rw [IntKind.wrap_u64]; omega
        generalize xs[0] % 2 ^ b = v at *
        generalize 2 ^ b = d at *
        generalize on b = m at *
        generalize xs[0] = x at *
        clear hb HL h0 hn hl cx
        go_enter Try.func7, Try.ntmps7
        go_wp2_with fail
        refine KB.out.mono ?_
        rintro e w1 ⟨rfl, B1⟩
        have X := One.new w1 #[.slice (some ad) n c, .int .i64 1] 28
        have BX := Lib.hid (below_step B1 X.bl)
        have cx0 := keep_cell BX.out CX.out
        have cx1 : (w1.alloc (.cells #[.slice (some ad) n c, .int .i64 1] 28)).cell? ad = some (wd x) := by simpa [Addr.add] using cx0
        obtain ⟨X0, X1⟩ := X.bg.two
        have KA := Lib.hid awake_any
        have hvv : ((v : Int) == (v : Int)) = true := by simp
        clear CX X B1 KB
        go_upto_region 9 with fail
        generalize w1.alloc (.cells #[.slice (some ad) n c, .int .i64 1] 28) = w2 at *
        generalize w1.heap.size = g at *
        go_region_held3 (fun w' => w'.cell? ⟨g, 1, none⟩ = some (.int .i64 1) ∧ w'.cell? ad = some (wd x))
          ((refine ⟨?_, ?_⟩ <;> (repeat (first | with_reducible exact X1 | with_reducible exact cx1 | with_reducible refine keep_drew ?_ | with_reducible refine keep_cell (by assumption) ?_))))
          (first | (go_at_call 9; refine (KA.out _).mono ?_; rintro e z1 ⟨rfl, hz1⟩))
        all_goals go_wp2_with fail
        all_goals (go_ret; exact ⟨rfl, below_step BX.out.drew hz1⟩)

set_option maxRecDepth 100000 in
theorem lifted (os : Os) (started : os.Started) (H : Type) (enc : TypeId × Value → H) :
    ReturnsInHanded {} Try.checked os 7 .any (Rows.drawPowerSpec.pre6 enc Try.prog Try.f7 Rows.drawPowerRow.domain false) (Rows.drawPowerSpec.post enc Try.prog Try.f7 false true false false) := by
  refine returnsInHanded_of_change (C := Try.checked) own started (by kernel_rfl) Try.func7
    (ChangeSpec.witness6 (enc := enc) (C := Try.checked) false ⟨#[], #[.slice none 0 0, .int .u8 0], []⟩ 8 (by kernel_rfl) (by kernel_rfl) (by kernel_rfl) (by kernel_rfl)) ?_
  intro W base args ds gs before hval0 hW hcnd _
  have hval : ∀ (j : Nat) t v, Try.f7.params[j]? = some t → args[j]? = some v → Value.okWide Try.prog W .any base t v := hval0
  have hW' := hW
  obtain ⟨p, q, hA0, hV, rfl, _, _⟩ := hW
  have hA : DataW.TrodAll enc Try.prog W 0 (fun _ => true) true Try.f7.params.toList args.toList ds p := hA0
  rw [Try.params7] at hA hval
  obtain ⟨v0, v1, d0, d1, p0, p1, rfl, rfl, rfl, h0t, h1t⟩ := trodAll_two hA
  obtain ⟨rfl, rfl⟩ := trodVars_none hV
  obtain ⟨A0, n0, c0, xs0, rfl, hs0⟩ := open_words (hval 0 22 v0 rfl rfl) h0t
  obtain ⟨n1, rfl, hn1⟩ := open_u8 (hval 1 5 v1 rfl rfl) h1t
  clear hA0 hval0
  simp only [List.append_nil] at hW'
  have hlt : ∀ x ∈ p0 ++ p1, x.block < W.heap.size := fun x hx => by simpa using hW'.lt x (by simpa using hx)
  refine (walk A0 n0 c0 n1 xs0 W hs0 hn1).mono fun e W' ⟨he, hbl⟩ => ?_
  subst he
  refine ⟨_, rfl, post_args hW' (fun _ _ _ => trodAll_mk1 (shut_bool Try.underlying4 _)) ?_ (fun _ => rfl) hbl⟩
  have t0 := Below.trod laidOut readable_words typed_words h0t hbl (fun x hx => hlt x (List.mem_append_left _ hx))
  have t1 := Below.trod laidOut readable_u8 typed_u8 h1t hbl (fun x hx => hlt x (List.mem_append_right _ hx))
  exact trodAll_mk2 t0 t1

theorem proved : Rows.DrawPowerSaid :=
  OpenClaim.holds_of_wide 7 Try.f7 rfl rfl rfl rfl rfl rfl rfl ⟨rfl, rfl, rfl, rfl, rfl⟩ rfl rfl rfl rfl rfl (by kernel_rfl) Try.func7 (by kernel_rfl)
    (of_decide_eq_true (by kernel_rfl)) (by unfold Func.isWrapper; first | (rw [if_pos (by decide +kernel)]; kernel_rfl) | (rw [if_neg (by decide +kernel)]; exact ⟨rfl, rfl⟩))
    (fun os started H enc _ => lifted os started H enc)
#print axioms proved
end Go.Proofs.Ythhphbaimpcjfaa.drawPower
