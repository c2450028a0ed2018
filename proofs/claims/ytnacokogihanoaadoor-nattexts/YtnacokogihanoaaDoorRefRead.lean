/- The document's answers: the walk of Read. -/
import Derived.Test.YtnacokogihanoaaDoorRefText
namespace Go.Proofs.YtnacokogihanoaaDoor
open Go.RowKit
set_option linter.unusedVariables false
set_option linter.unusedSimpArgs false

theorem rd_ge {l : List UInt8} (h : isT l) (hl : 1 < l.length) : 10 ^ (l.length - 1) ≤ rd l := by
  cases l with
  | nil => simp at hl
  | cons c r =>
    have hc := h.2.2 c (by simp)
    have h48 : ¬ c = 48 := fun e => h.2.1 ⟨by rw [e]; rfl, hl⟩
    have c1 : 1 ≤ c.toNat - 48 := by
      unfold isD at hc
      rcases Nat.lt_or_ge 48 c.toNat with k | k
      · omega
      · exact absurd (byte48 (by omega)) h48
    have e := rd_append [c] r
    have e1 : rd [c] = c.toNat - 48 := by
      have := rd_snoc [] c
      have z : rd [] = 0 := rfl
      rw [z] at this
      simpa using this
    rw [List.singleton_append, e1] at e
    rw [e, List.length_cons, Nat.add_sub_cancel]
    have := Nat.mul_le_mul_right (10 ^ r.length) c1
    omega
theorem rd_long {l : List UInt8} (h : isT l) (hl : 700 < l.length) : ¬ ln (rd l) ≤ 64 := by
  intro q
  obtain ⟨K, hK, a⟩ : ∃ K, K = 9 * 70 ∧ rd l < 10 ^ K := ⟨_, rfl, lt_630 q⟩
  have b := rd_ge h (by omega)
  have c : 10 ^ K ≤ 10 ^ (l.length - 1) := Nat.pow_le_pow_right (by decide) (by omega)
  exact Nat.lt_irrefl _ (Nat.lt_of_lt_of_le a (Nat.le_trans c b))
theorem ln_rd {l : List UInt8} (h : ∀ c ∈ l, isD c) : ln (rd l) ≤ l.length := by
  refine ln_le (Nat.lt_of_lt_of_le (rd_lt l h) ?_)
  exact Nat.pow_le_pow_left (by rw [B_eq]; decide) _
/-- What Read answers. -/
def RetRd (l : List UInt8) (w : World) (e : Ending) (w' : World) : Prop := ∃ A n c k, e = .returned (.tuple #[.slice A n c, .int .i64 k]) ∧ Below w.heap.size w w' ∧ ((isT l ∧ Lim w' A n c (limbs (fitN (rd l))) ∧ k = fitE (rd l)) ∨ (¬ isT l ∧ Lim w' A n c [] ∧ k = 2))
theorem RetRd.none_ {l : List UInt8} {w : World} (h : ¬ isT l) : RetRd l w (.returned (.tuple #[.slice none 0 0, .int .i64 2])) w := ⟨none, 0, 0, 2, rfl, Below.refl _ _, Or.inr ⟨h, Lim.none_ _ _ _ (by omega), rfl⟩⟩
theorem RetRd.big {l : List UInt8} {w w' : World} (h : isT l) (hb : ¬ ln (rd l) ≤ 64) (hw : Below w.heap.size w w') : RetRd l w (.returned (.tuple #[.slice none 0 0, .int .i64 6])) w' := ⟨none, 0, 0, 6, rfl, hw, Or.inl ⟨h, by rw [fitN_no hb]; exact lim_zero _ _ _ (by omega), (fitE_no hb).symm⟩⟩
/-- One limb in a block of its own. -/
theorem lim_one (w : World) (x : Nat) (hx : x < 4294967296) : Lim (w.alloc (.cells #[.int .u32 (x : Int)] 37)) (some ⟨w.heap.size, 0, none⟩) 1 1 [x] := by
  have := (Row.new w [x] (.cons hx .nil)).lim (o := 0) (n := 1) (c := 1) (by simp) (by omega) (by omega)
  exact this
theorem val_one (x : Nat) : val [x] = x := by rw [val_cons, val_nil, Nat.mul_zero, Nat.add_zero]
/-- At the head of the second loop. -/
def Nr (l : List UInt8) (v : Value) (wr : World) : Prop := ∃ A n c, v = .slice A n c ∧ n ≤ 1000 ∧ Lim wr A n c (limbs (rd l))

set_option maxHeartbeats 4000000 in
set_option maxRecDepth 100000 in
theorem refRead_any (s : ByteArray) (hs : s.size ≤ 9223372036854775807) (w : World) : Calls Tryd.prog 17 #[.string s] w fun e w' => RetRd (L s) w e w' := by
  by_cases h0 : 0 < s.size
  · obtain ⟨he, hne⟩ := empty_no h0
    have NE : Hid (L s ≠ []) := by
      intro e
      have := L_len s
      rw [e] at this
      simp at this
      omega
    have HH := Lib.hid (L_head s h0)
    have s0 : ((s.size : Int) == 0) = false := beq_eq_false_iff_ne.2 (by omega)
    by_cases hx : (s[0].toNat : Int) = 48
    · by_cases h1 : 1 < s.size
      · have N1 : Hid (¬ isT (L s)) := fun t => t.2.1 ⟨by rw [HH.out, byte48 hx], by rw [L_len]; exact h1⟩
        have i1 : (1 : Int) < s.size := by omega
        go_enter Tryd.func17, Tryd.ntmps17
        go_wp2_with fail
        go_ret2
        exact RetRd.none_ N1.out
      · have N1 : Hid (¬ ((L s).head? = some 48 ∧ 1 < (L s).length)) := fun t => by
          have := t.2
          rw [L_len] at this
          omega
        have i1 : ¬ (1 : Int) < s.size := by omega
        clear h1
        go_enter Tryd.func17, Tryd.ntmps17
        go_wp2_with fail
        go_loopg [4] s.size (fun q s4 wr => ∃ k : Nat, k + q = s.size ∧ s4 = .int .i64 (k : Int) ∧ Hid (∀ c ∈ (L s).take k, isD c) ∧ w = wr)
        case atStart => exact ⟨0, by omega, rfl, (by intro c hc; simp at hc), rfl⟩
        case round =>
          obtain ⟨k, hq, rfl, hd, rfl⟩ := hrel
          have HQ := Lib.hid hq
          by_cases lt : k < s.size
          · have il : (k : Int) < s.size := by omega
            have il0 : (0 : Int) ≤ k := by omega
            have et : (L s).take (k + 1) = (L s).take k ++ [s[k]] := List.take_succ_eq_append_getElem (by rw [L_len]; exact lt)
            have hm : s[k] ∈ L s := List.getElem_mem (by rw [L_len]; exact lt)
            by_cases c1 : (s[k].toNat : Int) < 48
            · have NT : Hid (¬ isT (L s)) := fun t => not_isD (Or.inl c1) (t.2.2 _ hm)
              clear hq et hm
              go_wp2_with fail
              go_ret2
              exact RetRd.none_ NT.out
            · by_cases c2 : 57 < (s[k].toNat : Int)
              · have NT : Hid (¬ isT (L s)) := fun t => not_isD (Or.inr c2) (t.2.2 _ hm)
                clear hq et hm
                go_wp2_with fail
                go_ret2
                exact RetRd.none_ NT.out
              · have HD : Hid (∀ c ∈ (L s).take (k + 1), isD c) := by
                  intro c hc
                  rw [et, List.mem_append] at hc
                  rcases hc with hc | hc
                  · exact hd.out c hc
                  · rw [List.mem_singleton] at hc
                    rw [hc]
                    unfold isD
                    omega
                clear hq et hm hd
                go_wp2_with fail
                go_roundg (gk - 1)
                case measure => have := HQ.out; omega
                case rel => exact ⟨k + 1, by have := HQ.out; omega, by go_num, HD, rfl⟩
          · obtain rfl : s.size = k := by omega
            have il : ¬ (s.size : Int) < s.size := by omega
            have YT : Hid (isT (L s)) := by
              refine ⟨NE.out, N1.out, ?_⟩
              have := hd.out
              rwa [List.take_of_length_le (by rw [L_len]; exact Nat.le_refl _)] at this
            clear hq hd HQ lt
            by_cases long : 700 < s.size
            · have l1 : (700 : Int) < s.size := by omega
              have BG := Lib.hid (rd_long YT.out (by rw [L_len]; exact long))
              clear long
              go_wp2_with fail
              go_ret2
              exact RetRd.big YT.out BG.out (Below.refl _ _)
            · have l1 : ¬ (700 : Int) < s.size := by omega
              have HDD : Hid (∀ c ∈ L s, isD c) := YT.out.2.2
              have N0 : Hid (Nr [] (.slice none 0 0) w) := ⟨none, 0, 0, rfl, by omega, by
                have : rd [] = 0 := rfl
                rw [this]
                exact lim_zero _ _ _ (by omega)⟩
              go_wp2_with fail
              go_loopg [5, 6] s.size (fun q s5 s6 wr => ∃ k : Nat, k + q = s.size ∧ s6 = .int .i64 (k : Int) ∧ Hid (Nr ((L s).take k) s5 wr) ∧ Hid (Below w.heap.size w wr))
              case atStart => exact ⟨0, by omega, rfl, N0, Below.refl _ _⟩
              case round =>
                clear N0
                obtain ⟨k, hq, rfl, NX, BL⟩ := hrel
                have HQ := Lib.hid hq
                obtain ⟨A1, n1, c1, rfl, hn1, L1⟩ := NX.out
                by_cases lt : k < s.size
                · have il : (k : Int) < s.size := by omega
                  have il0 : (0 : Int) ≤ k := by omega
                  have et : (L s).take (k + 1) = (L s).take k ++ [s[k]] := List.take_succ_eq_append_getElem (by rw [L_len]; exact lt)
                  have hm : s[k] ∈ L s := List.getElem_mem (by rw [L_len]; exact lt)
                  have dk := HDD.out _ hm
                  unfold isD at dk
                  have ER : rd ((L s).take (k + 1)) = rd ((L s).take k) * 10 + (s[k].toNat - 48) := by rw [et, rd_snoc]
                  have LR : Hid (ln (rd ((L s).take (k + 1))) ≤ 700) := by
                    refine Nat.le_trans (ln_rd fun c hc => HDD.out c (List.mem_of_mem_take hc)) ?_
                    rw [List.length_take]; omega
                  have LM : Hid (ln (rd ((L s).take k) * 10) ≤ 700) := Nat.le_trans (ln_mono (by rw [ER]; omega)) LR.out
                  have KM := refMul_any (L1.alloc (.cells #[.int .u32 ((10 : Nat) : Int)] 37)) (lim_one wr 10 (by decide)) (by omega) (by decide)
                  rw [val_limbs, val_one] at KM
                  have KM := Lib.hid KM
                  have B1 := Lib.hid ((Below.refl wr.heap.size wr).alloc (Nat.le_refl _) (.cells #[.int .u32 ((10 : Nat) : Int)] 37))
                  have B01 := Lib.hid (below_step BL.out B1.out)
                  by_cases z : (s[k].toNat : Int) = 48
                  · have z' : ((s[k].toNat : Int) != 48) = false := by simp; omega
                    have E1 : Hid (rd ((L s).take k) * 10 = rd ((L s).take (k + 1))) := by unfold Hid; rw [ER]; omega
                    clear ER et hm L1 hq
                    go_wp2_with fail
                    refine KM.out.mono ?_
                    rintro e w1 ⟨A2, n2, c2, rfl, L2, B2⟩
                    have N2 : Hid (Nr ((L s).take (k + 1)) (.slice A2 n2 c2) w1) := ⟨A2, n2, c2, rfl, by rw [← L2.len, limbs_length]; exact Nat.le_trans LM.out (by decide), by rw [← E1.out]; exact L2⟩
                    have B02 := Lib.hid (below_step B01.out B2)
                    clear L2 B2
                    go_wp2_with fail
                    go_roundg (gk - 1)
                    case measure => have := HQ.out; omega
                    case rel =>
                      go_light
                      exact ⟨k + 1, by have := HQ.out; omega, by go_num, N2, B02⟩
                  · have z' : ((s[k].toNat : Int) != 48) = true := by simpa using z
                    obtain ⟨d, hd⟩ : ∃ d, s[k].toNat - 48 = d := ⟨_, rfl⟩
                    have ed : (s[k].toNat : Int) - 48 = (d : Int) := by omega
                    have d9 : d < 10 := by omega
                    have E1 : Hid (rd ((L s).take k) * 10 + d = rd ((L s).take (k + 1))) := by unfold Hid; rw [ER, hd]
                    have cl : (48 : Int) ≤ s[k].toNat := by omega
                    have cu : (s[k].toNat : Int) ≤ 57 := by omega
                    clear ER et hm L1 hq hd
                    go_wp2_with fail
                    refine KM.out.mono ?_
                    rintro e w1 ⟨A2, n2, c2, rfl, L2, B2⟩
                    have KA := refAdd_any (L2.alloc (.cells #[.int .u32 (d : Int)] 37)) (lim_one w1 d (by omega)) (by rw [← L2.len, limbs_length]; exact Nat.le_trans LM.out (by decide)) (by decide)
                    rw [val_limbs, val_one, E1.out] at KA
                    have KA := Lib.hid KA
                    have B3 := (Below.refl w1.heap.size w1).alloc (Nat.le_refl _) (.cells #[.int .u32 (d : Int)] 37)
                    have B03 := Lib.hid (below_step (below_step B01.out B2) B3)
                    clear L2 B2 B3
                    go_wp2_with fail
                    refine KA.out.mono ?_
                    rintro e w4 ⟨A4, n4, c4, rfl, L4, B4⟩
                    have N4 : Hid (Nr ((L s).take (k + 1)) (.slice A4 n4 c4) w4) := ⟨A4, n4, c4, rfl, by rw [← L4.len, limbs_length]; exact Nat.le_trans LR.out (by decide), L4⟩
                    have B04 := Lib.hid (below_step B03.out B4)
                    clear L4 B4
                    go_wp2_with fail
                    go_roundg (gk - 1)
                    case measure => have := HQ.out; omega
                    case rel =>
                      go_light
                      exact ⟨k + 1, by have := HQ.out; omega, by go_num, N4, B04⟩
                · obtain rfl : s.size = k := by omega
                  rw [List.take_of_length_le (by rw [L_len]; exact Nat.le_refl _)] at L1
                  have ln1 := L1.len
                  rw [limbs_length] at ln1
                  have L1 := Lib.hid L1
                  by_cases big : ln (rd (L s)) ≤ 64
                  · have b1 : ¬ (64 : Int) < n1 := by omega
                    have BG := Lib.hid big
                    clear ln1 big hq
                    go_wp2_with fail
                    go_ret2
                    exact ⟨_, _, _, 0, rfl, BL.out, Or.inl ⟨YT.out, by rw [fitN_yes BG.out]; exact L1.out, (fitE_yes BG.out).symm⟩⟩
                  · have b1 : (64 : Int) < n1 := by omega
                    have BG := Lib.hid big
                    clear ln1 big hq
                    go_wp2_with fail
                    go_ret2
                    exact RetRd.big YT.out BG.out BL.out
    · have N1 : Hid (¬ ((L s).head? = some 48 ∧ 1 < (L s).length)) := fun t => by
        have e := t.1
        rw [HH.out] at e
        injection e with e
        exact hx (by rw [e]; rfl)
      have hx' : ((s[0].toNat : Int) == 48) = false := by simpa using hx
      go_enter Tryd.func17, Tryd.ntmps17
      go_wp2_with fail
      go_loopg [4] s.size (fun q s4 wr => ∃ k : Nat, k + q = s.size ∧ s4 = .int .i64 (k : Int) ∧ Hid (∀ c ∈ (L s).take k, isD c) ∧ w = wr)
      case atStart => exact ⟨0, by omega, rfl, (by intro c hc; simp at hc), rfl⟩
      case round =>
        obtain ⟨k, hq, rfl, hd, rfl⟩ := hrel
        have HQ := Lib.hid hq
        by_cases lt : k < s.size
        · have il : (k : Int) < s.size := by omega
          have il0 : (0 : Int) ≤ k := by omega
          have et : (L s).take (k + 1) = (L s).take k ++ [s[k]] := List.take_succ_eq_append_getElem (by rw [L_len]; exact lt)
          have hm : s[k] ∈ L s := List.getElem_mem (by rw [L_len]; exact lt)
          by_cases c1 : (s[k].toNat : Int) < 48
          · have NT : Hid (¬ isT (L s)) := fun t => not_isD (Or.inl c1) (t.2.2 _ hm)
            clear hq et hm
            go_wp2_with fail
            go_ret2
            exact RetRd.none_ NT.out
          · by_cases c2 : 57 < (s[k].toNat : Int)
            · have NT : Hid (¬ isT (L s)) := fun t => not_isD (Or.inr c2) (t.2.2 _ hm)
              clear hq et hm
              go_wp2_with fail
              go_ret2
              exact RetRd.none_ NT.out
            · have HD : Hid (∀ c ∈ (L s).take (k + 1), isD c) := by
                intro c hc
                rw [et, List.mem_append] at hc
                rcases hc with hc | hc
                · exact hd.out c hc
                · rw [List.mem_singleton] at hc
                  rw [hc]
                  unfold isD
                  omega
              clear hq et hm hd
              go_wp2_with fail
              go_roundg (gk - 1)
              case measure => have := HQ.out; omega
              case rel => exact ⟨k + 1, by have := HQ.out; omega, by go_num, HD, rfl⟩
        · obtain rfl : s.size = k := by omega
          have il : ¬ (s.size : Int) < s.size := by omega
          have YT : Hid (isT (L s)) := by
            refine ⟨NE.out, N1.out, ?_⟩
            have := hd.out
            rwa [List.take_of_length_le (by rw [L_len]; exact Nat.le_refl _)] at this
          clear hq hd HQ lt
          by_cases long : 700 < s.size
          · have l1 : (700 : Int) < s.size := by omega
            have BG := Lib.hid (rd_long YT.out (by rw [L_len]; exact long))
            clear long
            go_wp2_with fail
            go_ret2
            exact RetRd.big YT.out BG.out (Below.refl _ _)
          · have l1 : ¬ (700 : Int) < s.size := by omega
            have HDD : Hid (∀ c ∈ L s, isD c) := YT.out.2.2
            have N0 : Hid (Nr [] (.slice none 0 0) w) := ⟨none, 0, 0, rfl, by omega, by
              have : rd [] = 0 := rfl
              rw [this]
              exact lim_zero _ _ _ (by omega)⟩
            go_wp2_with fail
            go_loopg [5, 6] s.size (fun q s5 s6 wr => ∃ k : Nat, k + q = s.size ∧ s6 = .int .i64 (k : Int) ∧ Hid (Nr ((L s).take k) s5 wr) ∧ Hid (Below w.heap.size w wr))
            case atStart => exact ⟨0, by omega, rfl, N0, Below.refl _ _⟩
            case round =>
              clear N0
              obtain ⟨k, hq, rfl, NX, BL⟩ := hrel
              have HQ := Lib.hid hq
              obtain ⟨A1, n1, c1, rfl, hn1, L1⟩ := NX.out
              by_cases lt : k < s.size
              · have il : (k : Int) < s.size := by omega
                have il0 : (0 : Int) ≤ k := by omega
                have et : (L s).take (k + 1) = (L s).take k ++ [s[k]] := List.take_succ_eq_append_getElem (by rw [L_len]; exact lt)
                have hm : s[k] ∈ L s := List.getElem_mem (by rw [L_len]; exact lt)
                have dk := HDD.out _ hm
                unfold isD at dk
                have ER : rd ((L s).take (k + 1)) = rd ((L s).take k) * 10 + (s[k].toNat - 48) := by rw [et, rd_snoc]
                have LR : Hid (ln (rd ((L s).take (k + 1))) ≤ 700) := by
                  refine Nat.le_trans (ln_rd fun c hc => HDD.out c (List.mem_of_mem_take hc)) ?_
                  rw [List.length_take]; omega
                have LM : Hid (ln (rd ((L s).take k) * 10) ≤ 700) := Nat.le_trans (ln_mono (by rw [ER]; omega)) LR.out
                have KM := refMul_any (L1.alloc (.cells #[.int .u32 ((10 : Nat) : Int)] 37)) (lim_one wr 10 (by decide)) (by omega) (by decide)
                rw [val_limbs, val_one] at KM
                have KM := Lib.hid KM
                have B1 := Lib.hid ((Below.refl wr.heap.size wr).alloc (Nat.le_refl _) (.cells #[.int .u32 ((10 : Nat) : Int)] 37))
                have B01 := Lib.hid (below_step BL.out B1.out)
                by_cases z : (s[k].toNat : Int) = 48
                · have z' : ((s[k].toNat : Int) != 48) = false := by simp; omega
                  have E1 : Hid (rd ((L s).take k) * 10 = rd ((L s).take (k + 1))) := by unfold Hid; rw [ER]; omega
                  clear ER et hm L1 hq
                  go_wp2_with fail
                  refine KM.out.mono ?_
                  rintro e w1 ⟨A2, n2, c2, rfl, L2, B2⟩
                  have N2 : Hid (Nr ((L s).take (k + 1)) (.slice A2 n2 c2) w1) := ⟨A2, n2, c2, rfl, by rw [← L2.len, limbs_length]; exact Nat.le_trans LM.out (by decide), by rw [← E1.out]; exact L2⟩
                  have B02 := Lib.hid (below_step B01.out B2)
                  clear L2 B2
                  go_wp2_with fail
                  go_roundg (gk - 1)
                  case measure => have := HQ.out; omega
                  case rel =>
                    go_light
                    exact ⟨k + 1, by have := HQ.out; omega, by go_num, N2, B02⟩
                · have z' : ((s[k].toNat : Int) != 48) = true := by simpa using z
                  obtain ⟨d, hd⟩ : ∃ d, s[k].toNat - 48 = d := ⟨_, rfl⟩
                  have ed : (s[k].toNat : Int) - 48 = (d : Int) := by omega
                  have d9 : d < 10 := by omega
                  have E1 : Hid (rd ((L s).take k) * 10 + d = rd ((L s).take (k + 1))) := by unfold Hid; rw [ER, hd]
                  have cl : (48 : Int) ≤ s[k].toNat := by omega
                  have cu : (s[k].toNat : Int) ≤ 57 := by omega
                  clear ER et hm L1 hq hd
                  go_wp2_with fail
                  refine KM.out.mono ?_
                  rintro e w1 ⟨A2, n2, c2, rfl, L2, B2⟩
                  have KA := refAdd_any (L2.alloc (.cells #[.int .u32 (d : Int)] 37)) (lim_one w1 d (by omega)) (by rw [← L2.len, limbs_length]; exact Nat.le_trans LM.out (by decide)) (by decide)
                  rw [val_limbs, val_one, E1.out] at KA
                  have KA := Lib.hid KA
                  have B3 := (Below.refl w1.heap.size w1).alloc (Nat.le_refl _) (.cells #[.int .u32 (d : Int)] 37)
                  have B03 := Lib.hid (below_step (below_step B01.out B2) B3)
                  clear L2 B2 B3
                  go_wp2_with fail
                  refine KA.out.mono ?_
                  rintro e w4 ⟨A4, n4, c4, rfl, L4, B4⟩
                  have N4 : Hid (Nr ((L s).take (k + 1)) (.slice A4 n4 c4) w4) := ⟨A4, n4, c4, rfl, by rw [← L4.len, limbs_length]; exact Nat.le_trans LR.out (by decide), L4⟩
                  have B04 := Lib.hid (below_step B03.out B4)
                  clear L4 B4
                  go_wp2_with fail
                  go_roundg (gk - 1)
                  case measure => have := HQ.out; omega
                  case rel =>
                    go_light
                    exact ⟨k + 1, by have := HQ.out; omega, by go_num, N4, B04⟩
              · obtain rfl : s.size = k := by omega
                rw [List.take_of_length_le (by rw [L_len]; exact Nat.le_refl _)] at L1
                have ln1 := L1.len
                rw [limbs_length] at ln1
                have L1 := Lib.hid L1
                by_cases big : ln (rd (L s)) ≤ 64
                · have b1 : ¬ (64 : Int) < n1 := by omega
                  have BG := Lib.hid big
                  clear ln1 big hq
                  go_wp2_with fail
                  go_ret2
                  exact ⟨_, _, _, 0, rfl, BL.out, Or.inl ⟨YT.out, by rw [fitN_yes BG.out]; exact L1.out, (fitE_yes BG.out).symm⟩⟩
                · have b1 : (64 : Int) < n1 := by omega
                  have BG := Lib.hid big
                  clear ln1 big hq
                  go_wp2_with fail
                  go_ret2
                  exact RetRd.big YT.out BG.out BL.out
  · have e : L s = [] := List.eq_nil_of_length_eq_zero (by rw [L_len]; omega)
    have e2 : s = ⟨#[]⟩ := by rw [← of_L s, e]
    have NT : Hid (¬ isT (L s)) := fun t => t.1 e
    subst e2
    clear e h0
    go_enter Tryd.func17, Tryd.ntmps17
    go_wp2_with fail
    go_ret2
    exact RetRd.none_ NT.out
end Go.Proofs.YtnacokogihanoaaDoor
