/- For any number and any bits above the law DrawEven answers true: of all words up to the mask each number below the bound comes of just one, and all others are taken back for a new attempt. No condition. -/
import Derived.Test.YthhphbaimpcjfaaDO
import Derived.Test.YthhphbaimpcjfaaDEN
namespace Go.Proofs.Ythhphbaimpcjfaa.drawEven
open Go.ChangeShapes Go.WideShapes Go.ChangeAt Go.RowKit
open Go.Proofs.Ythhphbaimpcjfaa
set_option linter.unusedVariables false
set_option linter.unusedSimpArgs false

set_option maxHeartbeats 4000000 in
set_option maxRecDepth 100000 in
theorem walk (b h : Nat) (w : World) (hb : b < 65536) (hh : h < 18446744073709551616) : Calls Try.prog 4 #[.int .u16 (b : Int), .int .u64 (h : Int)] w fun e w' => e = .returned (.bool true) ∧ Below w.heap.size w w' := by
  obtain ⟨m, hm⟩ : ∃ m, m = b % 4096 := ⟨_, rfl⟩
  have e1 : (b : Int) % 4096 = (m : Int) := by omega
  obtain ⟨d, hd⟩ : ∃ d, d = 1 + m := ⟨_, rfl⟩
  have e2 : (1 : Int) + (m : Int) = (d : Int) := by omega
  have d1 : 1 ≤ d := by omega
  have d2 : d ≤ 4096 := by omega
  have m2 : m < 4096 := by omega
  have hmk := make_ints d (by omega)
  have D1 := Lib.hid d1
  clear hm hd
  go_enter Try.func4, Try.ntmps4
  go_wp2_with fail
  go_loopg [6] d (fun q s6 wr => ∃ t e : Nat, s6 = .int .u64 (t : Int) ∧ Hid (t = 2 ^ e) ∧ Hid (e = 0 ∨ 2 ^ (e - 1) < d) ∧ 1 ≤ t ∧ t ≤ 8192 ∧ Hid (d ≤ t + q) ∧ w = wr)
  case atStart => exact ⟨1, 0, rfl, rfl, Or.inl rfl, by decide, by decide, (by unfold Hid; omega), rfl⟩
  case round =>
    obtain ⟨t, e, rfl, ht, he, t1, t2, hq, rfl⟩ := hrel
    by_cases lt : t < d
    · have il : (t : Int) < d := by omega
      have T2 : Hid (2 * t = 2 ^ (e + 1)) := by unfold Hid; rw [ht.out, Nat.pow_succ, Nat.mul_comm]
      have E2 : Hid (e + 1 = 0 ∨ 2 ^ (e + 1 - 1) < d) := by unfold Hid; rw [Nat.add_sub_cancel, ← ht.out]; exact Or.inr lt
      have T8 : Hid (t < d) := lt
      go_wp2_with fail
      go_roundg (gk - 1)
      case measure => have := hq.out; have := T8.out; omega
      case rel =>
        go_light
        exact ⟨2 * t, e + 1, by go_num, T2.out, E2.out, by omega, by have := T8.out; omega, (by unfold Hid; have := hq.out; have := T8.out; omega), rfl⟩
    · have il : ¬ (t : Int) < d := by omega
      have ME : Hid (mb d = e) := mb_least (by rw [← ht.out]; omega) he.out
      have e13 : e ≤ 64 := by
        have : 2 ^ e ≤ 2 ^ 13 := by rw [← ht.out]; exact t2
        have := (Nat.pow_le_pow_iff_right (a := 2) (by decide)).1 this
        omega
      have eo : (t : Int) - 1 = (on e : Int) := by
        have := ht.out
        rw [on_eq]; omega
      have EA := u64_andNot_on h e hh e13
      have EO : Hid (∀ x : Nat, x < t → bits .or .u64 (hup h e : Int) (x : Int) = ((hup h e + x : Nat) : Int)) := fun x hx => u64_or_low h e x hh (by rw [← ht.out]; exact hx) e13
      have EL : Hid (∀ x : Nat, x < t → hup h e + x < 18446744073709551616) := fun x hx => hup_lt h e x hh (by rw [← ht.out]; exact hx) e13
      have U1 : Hid (hup h e < 18446744073709551616) := Nat.lt_of_le_of_lt (hup_le h e) hh
      have ew : IntKind.u64.wrap (on e : Int) = (on e : Int) := by
        have := on_lt e13
        rw [show (2 : Nat) ^ 64 = 18446744073709551616 from by decide] at this
        rw [IntKind.wrap_u64]; omega
      have A1 : Hid (d = 1 → t = 1) := by
        intro h1
        subst h1
        have k := ME.out
        rw [mb_one] at k
        rw [ht.out, ← k]
      have AH : Hid (∀ x : Nat, x < t → 1 < d → x < d → ans [hup h e + x, hup h e] 0 d = (x, 1, 0)) := fun x hx h1 l => ans_even_hit h1 (by omega) ME.out (by rw [← ht.out]; exact hx) l
      have AN : Hid (∀ x : Nat, x < t → 1 < d → ¬ x < d → ans [hup h e + x, hup h e] 0 d = (0, 2, 0)) := fun x hx h1 l => ans_even_next h1 (by omega) ME.out (by rw [← ht.out]; exact hx) l
      have TD : Hid (d ≤ t) := by unfold Hid; omega
      generalize on e = o at *
      generalize hup h e = u at *
      have R0 := Irow.zeros w d
      have BL : Below w.heap.size w (w.alloc (zrowi d)) := (Below.refl _ _).alloc (Nat.le_refl _) _
      rw [← cnt_zero] at R0
      clear ht he hq lt
      go_upto_region 6 with fail
      obtain ⟨g0, hg0⟩ : ∃ g0, Hid (g0 = w.heap.size) := ⟨_, rfl⟩
      rw [← hg0.out] at R0
      rw [← hg0.out]
      generalize w.alloc (zrowi d) = w1 at *
      have g0w : Hid (w.heap.size ≤ g0) := by unfold Hid; rw [hg0.out]; exact Nat.le_refl _
      clear hmk hg0
      go_wp2_with fail
      go_loopg [26] t (fun q s26 wr => ∃ x : Nat, x + q = t ∧ s26 = .int .u64 (x : Int) ∧ Irow wr g0 (cnt d x) ∧ Below w.heap.size w wr)
      case atStart => exact ⟨0, by omega, rfl, R0, BL⟩
      case round =>
        clear R0 BL
        obtain ⟨x, hq, rfl, R, BL⟩ := hrel
        have HQ := Lib.hid hq
        by_cases lt : x < t
        · have il2 : (x : Int) < t := by omega
          have il0 : (0 : Int) ≤ x := by omega
          have EX := EO.out x lt
          have LX := EL.out x lt
          have WL := wl_new wr [u + x, u] #[.int .u64 ((u + x : Nat) : Int), .int .u64 (u : Int)] (.cons LX (.cons U1.out .nil)) rfl 2 rfl (by decide)
          have KB := below_any (some ⟨wr.heap.size, 0, none⟩) 2 2 d 0 [u + x, u] _ WL (by omega)
          have B2 := Lib.hid ((Below.refl wr.heap.size wr).alloc (Nat.le_refl _) (.cells #[.int .u64 ((u + x : Nat) : Int), .int .u64 (u : Int)] 23))
          by_cases one : d = 1
          · have tt := A1.out one
            have x0 : x = 0 := by omega
            subst x0
            rw [one, ans_even_one] at KB
            have d3 : ((d : Int) == 1) = true := by rw [one]; decide
            have d4 : ¬ (1 : Int) < d := by omega
            have d5 : ¬ (d : Int) ≤ 0 := by omega
            have d6 : (0 : Int) < d := by omega
            rw [← one] at KB
            have KB := Lib.hid KB
            have LD : 0 < d := by omega
            have EX0 : bits .or .u64 (u : Int) 0 = ((u + 0 : Nat) : Int) := EX
            clear EX
            generalize u + 0 = y at *
            clear WL LX lt hq one tt
            go_wp2_with fail
            refine KB.out.mono ?_
            rintro e9 w3 ⟨rfl, B3⟩
            replace B3 := below_step B2.out B3
            replace R := R.next B3
            replace BL := below_step BL B3
            clear B3
            have X10 := Box.new w3 #[.slice (some ⟨wr.heap.size, 0, none⟩) 2 2, .int .i64 0] 28
            have D3 : Below w3.heap.size w3 (w3.alloc (.cells #[.slice (some ⟨wr.heap.size, 0, none⟩) 2 2, .int .i64 0] 28)) := (Below.refl _ _).alloc (Nat.le_refl _) _
            replace R := R.next D3
            replace BL := below_step BL D3
            clear D3 KB B2
            go_upto_region 10 with fail
            generalize w3.alloc (.cells #[.slice (some ⟨wr.heap.size, 0, none⟩) 2 2, .int .i64 0] 28) = w4 at *
            generalize w3.heap.size = g10 at *
            obtain ⟨a0, a1⟩ := X10.two
            have c3 := R.cell' (cnt_at LD)
            have f3 := R.melt 0
            go_wp2_with fail
            have R2 := R.set_ 0 1
            rw [cnt_set LD] at R2
            have R2 := Lib.hid R2
            have BL2 := Lib.hid (below_set (p := ⟨g0, 0, none⟩) BL g0w.out (iv 1))
            clear R BL a0 a1 c3 f3 X10
            go_roundg (gk - 1)
            case measure => have := HQ.out; omega
            case rel =>
              go_light
              exact ⟨0 + 1, by have := HQ.out; omega, by go_num, R2.out, BL2.out⟩
          · have one' : 1 < d := by have := D1.out; omega
            have d3 : ((d : Int) == 1) = false := by simp; omega
            have d4 : (1 : Int) < d := by omega
            by_cases xd : x < d
            · rw [AH.out x lt one' xd] at KB
              have KB := Lib.hid KB
              have d5 : ¬ (d : Int) ≤ (x : Int) := by omega
              have d6 : (x : Int) < d := by omega
              have XD := Lib.hid xd
              generalize u + x = y at *
              clear WL LX lt hq one one' xd
              go_wp2_with fail
              refine KB.out.mono ?_
              rintro e9 w3 ⟨rfl, B3⟩
              replace B3 := below_step B2.out B3
              replace R := R.next B3
              replace BL := below_step BL B3
              clear B3
              have X10 := Box.new w3 #[.slice (some ⟨wr.heap.size, 0, none⟩) 2 2, .int .i64 1] 28
              have D3 : Below w3.heap.size w3 (w3.alloc (.cells #[.slice (some ⟨wr.heap.size, 0, none⟩) 2 2, .int .i64 1] 28)) := (Below.refl _ _).alloc (Nat.le_refl _) _
              replace R := R.next D3
              replace BL := below_step BL D3
              clear D3 KB B2
              go_upto_region 10 with fail
              generalize w3.alloc (.cells #[.slice (some ⟨wr.heap.size, 0, none⟩) 2 2, .int .i64 1] 28) = w4 at *
              generalize w3.heap.size = g10 at *
              obtain ⟨a0, a1⟩ := X10.two
              have c3 := R.cell' (cnt_at XD.out)
              have f3 := R.melt x
              go_wp2_with fail
              have R2 := R.set_ x 1
              rw [cnt_set XD.out] at R2
              have R2 := Lib.hid R2
              have BL2 := Lib.hid (below_set (p := ⟨g0, x, none⟩) BL g0w.out (iv 1))
              clear R BL a0 a1 c3 f3 X10
              go_roundg (gk - 1)
              case measure => have := HQ.out; omega
              case rel =>
                go_light
                exact ⟨x + 1, by have := HQ.out; omega, by go_num, R2.out, BL2.out⟩
            · rw [AN.out x lt one' xd] at KB
              have KB := Lib.hid KB
              have d5 : ¬ (d : Int) ≤ 0 := by omega
              have d6 : ¬ (x : Int) < d := by omega
              have CS : Hid (cnt d x = cnt d (x + 1)) := (cnt_stay xd).symm
              generalize u + x = y at *
              clear WL LX lt hq one one' xd
              go_wp2_with fail
              refine KB.out.mono ?_
              rintro e9 w3 ⟨rfl, B3⟩
              replace B3 := below_step B2.out B3
              replace R := R.next B3
              replace BL := below_step BL B3
              clear B3
              have X10 := Box.new w3 #[.slice (some ⟨wr.heap.size, 0, none⟩) 2 2, .int .i64 2] 28
              have D3 : Below w3.heap.size w3 (w3.alloc (.cells #[.slice (some ⟨wr.heap.size, 0, none⟩) 2 2, .int .i64 2] 28)) := (Below.refl _ _).alloc (Nat.le_refl _) _
              replace R := R.next D3
              replace BL := below_step BL D3
              clear D3 KB B2
              go_upto_region 10 with fail
              generalize w3.alloc (.cells #[.slice (some ⟨wr.heap.size, 0, none⟩) 2 2, .int .i64 2] 28) = w4 at *
              generalize w3.heap.size = g10 at *
              obtain ⟨a0, a1⟩ := X10.two
              go_wp2_with fail
              rw [CS.out] at R
              have R2 := Lib.hid R
              have BL2 := Lib.hid BL
              clear R BL a0 a1 X10
              go_roundg (gk - 1)
              case measure => have := HQ.out; omega
              case rel =>
                go_light
                exact ⟨x + 1, by have := HQ.out; omega, by go_num, R2.out, BL2.out⟩
        · obtain rfl : t = x := by omega
          have il2 : ¬ (t : Int) < t := by omega
          have CA : Hid (∀ i, i < d → (cnt d t)[i]? = some 1) := fun i hi => cnt_all TD.out i hi
          have RH := Lib.hid R
          have BH := Lib.hid BL
          clear R BL hq lt EO EL AH AN
          go_wp2_with fail
          go_loopg [96] d (fun q s96 w5 => ∃ i : Nat, i + q = d ∧ s96 = .int .i64 (i : Int) ∧ wr = w5)
          case atStart => exact ⟨0, by omega, rfl, rfl⟩
          case round =>
            obtain ⟨i, hq, rfl, rfl⟩ := hrel
            have HQ := Lib.hid hq
            by_cases lt : i < d
            · have il3 : (i : Int) < d := by omega
              have il4 : (0 : Int) ≤ i := by omega
              have c5 := RH.out.cell' (CA.out i lt)
              clear hq lt
              go_wp2_with fail
              go_roundg (gk - 1)
              case measure => have := HQ.out; omega
              case rel =>
                go_light
                exact ⟨i + 1, by have := HQ.out; omega, by go_num, rfl⟩
            · obtain rfl : d = i := by omega
              have il3 : ¬ (d : Int) < d := by omega
              clear hq lt
              go_wp2_with fail
              refine (awake_any _).mono ?_
              rintro e y ⟨rfl, hy⟩
              go_wp2_with fail
              go_ret
              exact ⟨rfl, below_step BH.out hy⟩

set_option maxRecDepth 100000 in
theorem lifted (os : Os) (started : os.Started) (H : Type) (enc : TypeId × Value → H) :
    ReturnsInHanded {} Try.checked os 4 .any (Rows.drawEvenSpec.pre6 enc Try.prog Try.f4 Rows.drawEvenRow.domain false) (Rows.drawEvenSpec.post enc Try.prog Try.f4 false true false false) := by
  refine returnsInHanded_of_change (C := Try.checked) own started (by kernel_rfl) Try.func4
    (ChangeSpec.witness6 (enc := enc) (C := Try.checked) false ⟨#[], #[.int .u16 0, .int .u64 0], []⟩ 8 (by kernel_rfl) (by kernel_rfl) (by kernel_rfl) (by kernel_rfl)) ?_
  intro W base args ds gs before hval0 hW hcnd _
  have hval : ∀ (j : Nat) t v, Try.f4.params[j]? = some t → args[j]? = some v → Value.okWide Try.prog W .any base t v := hval0
  have hW' := hW
  obtain ⟨p, q, hA0, hV, rfl, _, _⟩ := hW
  have hA : DataW.TrodAll enc Try.prog W 0 (fun _ => true) true Try.f4.params.toList args.toList ds p := hA0
  rw [Try.params4] at hA hval
  obtain ⟨v0, v1, d0, d1, p0, p1, rfl, rfl, rfl, h0t, h1t⟩ := trodAll_two hA
  obtain ⟨rfl, rfl⟩ := trodVars_none hV
  obtain ⟨n0, rfl, hn0⟩ := open_u16 (hval 0 42 v0 rfl rfl) h0t
  obtain ⟨n1, rfl, hn1⟩ := open_u64 (hval 1 23 v1 rfl rfl) h1t
  clear hA0 hval0
  simp only [List.append_nil] at hW'
  have hlt : ∀ x ∈ p0 ++ p1, x.block < W.heap.size := fun x hx => by simpa using hW'.lt x (by simpa using hx)
  refine (walk n0 n1 W hn0 hn1).mono fun e W' ⟨he, hbl⟩ => ?_
  subst he
  refine ⟨_, rfl, post_args hW' (fun _ _ _ => trodAll_mk1 (shut_bool Try.underlying4 _)) ?_ (fun _ => rfl) hbl⟩
  have t0 := Below.trod laidOut readable_u16 typed_u16 h0t hbl (fun x hx => hlt x (List.mem_append_left _ hx))
  have t1 := Below.trod laidOut readable_u64 typed_u64 h1t hbl (fun x hx => hlt x (List.mem_append_right _ hx))
  exact trodAll_mk2 t0 t1

theorem proved : Rows.DrawEvenSaid :=
  OpenClaim.holds_of_wide 4 Try.f4 rfl rfl rfl rfl rfl rfl rfl ⟨rfl, rfl, rfl, rfl, rfl⟩ rfl rfl rfl rfl rfl (by kernel_rfl) Try.func4 (by kernel_rfl)
    (of_decide_eq_true (by kernel_rfl)) (by unfold Func.isWrapper; first | (rw [if_pos (by decide +kernel)]; kernel_rfl) | (rw [if_neg (by decide +kernel)]; exact ⟨rfl, rfl⟩))
    (fun os started H enc _ => lifted os started H enc)
#print axioms proved
end Go.Proofs.Ythhphbaimpcjfaa.drawEven
