/- The document's answers: the walks of twice, half, even. -/
import Derived.Test.YtnacokogihanoaaDoorWalkV
import Derived.Test.YtnacokogihanoaaDoorNumG
namespace Go.Proofs.YtnacokogihanoaaDoor
open Go.RowKit
set_option linter.unusedVariables false
set_option linter.unusedSimpArgs false

/-- What is in the loop of twice. -/
structure Tw (w : World) (xs : List Nat) (b i k : Nat) (v : Value) (wr : World) : Prop where
  ps : ∃ ps, ps.length = i ∧ Lo ps ∧ val ps + B ^ i * k = 2 * val (xs.take i) + b ∧ wr.ownsRow w.heap.size 37 1 v i (ps.map lv)
  k1 : k ≤ 1
  bl : Below w.heap.size w wr
set_option maxHeartbeats 2000000 in
set_option maxRecDepth 100000 in
theorem twice_any {A : Option Addr} {n c a b : Nat} {w : World} (h : Lim w A n c (limbs a)) (hb : b ≤ 1) (hn : n ≤ 100000) : Calls Tryd.prog 102 #[.slice A n c, lv b] w fun e w' => RetN (2 * a + b) w e w' := by
  have S0 : Tw w (limbs a) b 0 b (.slice none 0 0) w := ⟨⟨[], rfl, .nil, by simp [val_nil], World.ownsRow_nil w _ _ _⟩, hb, Below.refl _ _⟩
  obtain ⟨i0, hi, hz0, hz1, hz2⟩ := info_parts info_u32
  have HI := Lib.hid hi; have HZ0 := Lib.hid hz0; have HZ1 := Lib.hid hz1; have HZ2 := Lib.hid hz2
  have H := Lib.hid h
  have HL := Lib.hid h.len
  clear h hi hz0 hz1 hz2
  go_enter Tryd.func102, Tryd.ntmps102
  go_wp2_with fail
  go_loopg [5, 6, 7] n (fun q s5 s6 s7 wr => ∃ i k : Nat, i + q = n ∧ s7 = .int .i64 (i : Int) ∧ s6 = lv k ∧ Tw w (limbs a) b i k s5 wr)
  case atStart => exact ⟨0, b, by omega, rfl, rfl, S0⟩
  case round =>
    clear S0
    obtain ⟨i, k, hq, rfl, rfl, S⟩ := hrel
    have HQ := Lib.hid hq
    obtain ⟨ps, pl, plo, pv, po⟩ := S.ps
    have hk := S.k1
    have hb2 : w.heap.size ≤ wr.heap.size := S.bl.size
    have PO := Lib.hid po
    by_cases lt : i < n
    · have il : (i : Int) < n := by omega
      have il0 : (0 : Int) ≤ i := by omega
      have ix : i < (limbs a).length := by rw [HL.out]; exact lt
      obtain ⟨ad, rfl, c1⟩ := (H.out.next S.bl).at_ i ix
      have bx := (lo_limbs a).at_ i ix
      have KS : Hid (∀ (v2 : Value) (w2 : World) (o : Obj), w2.ownsRow w.heap.size 37 1 v2 (i + 1) (ps.map lv ++ [lv ((limbs a)[i] * 2 % 4294967296 + k)]) → (wr.alloc o).grownBy w2 (Value.ownBlock u5) → Tw w (limbs a) b (i + 1) ((limbs a)[i] / 2147483648) v2 w2) := by
        intro v2 w2 o h1 h2
        refine ⟨⟨ps ++ [(limbs a)[i] * 2 % 4294967296 + k], by simp [pl], plo.append (.cons (by omega) .nil), ?_, by simpa using h1⟩, by omega, ?_⟩
        · rw [val_snoc, pl, val_take_succ _ i ix, Nat.pow_succ]
          have := tw_step (x := (limbs a)[i]) pv
          rw [B_eq] at *
          omega
        · exact (S.bl.alloc S.bl.size o).grown h2 (by have := S.bl.size; simp; omega) (own_base po)
      have CX : Hid (∀ W, Below w.heap.size w W → W.cell? (ad.add i) = some (lv (limbs a)[i])) := fun W hW => (H.out.next hW).cell i ix
      generalize (limbs a)[i] = x at *
      have E3 : Hid (lv (x * 2 % 4294967296 + k) = Value.int IntKind.u32 (bits BinOp.or IntKind.u32 ((x : Int) * 2 % 4294967296) (k : Int))) := congrArg (Value.int .u32) (or_bit x k hk).symm
      clear hq S pl plo pv po
      go_wp2_with (at_builtin; refine wpList_append_own _ rfl _ _ 23 rfl w.heap.size 37 i0 (.int .u32 0) 1 4 Tryd.underlying23 HI.out HZ0.out HZ1.out HZ2.out rfl (by decide) _ i (ps.map lv) rfl (PO.out.alloc _) ⟨wr.heap.size, 0, none⟩ 1 1 [lv (x * 2 % 4294967296 + k)] rfl rfl ?qc2 ?qc3 ?qc4 ?qc5 ?qc6 ?_)
      case qc2 => (rw [E3.out]; first | exact cell_one_new wr _ _ | exact fun _ _ h => h)
      case qc3 => first | (intro u hu; rw [List.mem_singleton] at hu; rw [hu]; rfl) | rfl
      case qc4 => unfold maxLen; omega
      case qc5 => omega
      case qc6 => first | omega | (simp; omega)
      intro v2 w2 hown hg _
      have STh := Lib.hid (KS.out v2 w2 _ hown hg)
      have c1b := CX.out w2 STh.out.bl
      clear hown hg
      go_wp2_with fail
      go_roundg (gk - 1)
      case measure => have := HQ.out; omega
      case rel =>
        go_light
        exact ⟨i + 1, x / 2147483648, by have := HQ.out; omega, by go_num, rfl, STh.out⟩
    · obtain rfl : n = i := by omega
      have il : ¬ (n : Int) < n := by omega
      rw [List.take_of_length_le (by rw [HL.out]; exact Nat.le_refl _), val_limbs] at pv
      have ea : n = ln a := by rw [← HL.out, limbs_length]
      have BL := Lib.hid S.bl
      by_cases k0 : k = 0
      · subst k0
        rw [Nat.mul_zero, Nat.add_zero] at pv
        have EZ : Hid (limbs (2 * a + b) = ps) := by
          unfold Hid
          rw [← pv]
          refine limbs_full plo ?_
          by_cases a0 : a = 0
          · left
            rw [a0, ln_zero] at ea
            exact List.eq_nil_of_length_eq_zero (by omega)
          · right
            rw [pl, ea, pv]
            have := le_of_ln a0
            omega
        obtain ⟨A3, c3, rfl, L3⟩ := own_lim po plo
        have L3 := Lib.hid L3
        have k00 : ¬ (0 : Int) < ((0 : Nat) : Int) := by omega
        clear S pl plo pv po hq ea
        go_wp2_with fail
        go_ret
        exact ⟨_, _, _, rfl, by rw [EZ.out]; exact L3.out, BL.out⟩
      · obtain rfl : k = 1 := by omega
        rw [Nat.mul_one] at pv
        have E3 : Hid (lv 1 = Value.int IntKind.u32 1) := rfl
        have KS : Hid (∀ (v2 : Value) (w2 : World) (o : Obj), w2.ownsRow w.heap.size 37 1 v2 (n + 1) (ps.map lv ++ [lv 1]) → (wr.alloc o).grownBy w2 (Value.ownBlock u5) → w2.ownsRow w.heap.size 37 1 v2 (n + 1) ((ps ++ [1]).map lv) ∧ Lo (ps ++ [1]) ∧ limbs (2 * a + b) = ps ++ [1] ∧ Below w.heap.size w w2) := by
          intro v2 w2 o h1 h2
          have lo1 : Lo (ps ++ [1]) := plo.append (.cons (by decide) .nil)
          refine ⟨by simpa using h1, lo1, ?_, (S.bl.alloc S.bl.size o).grown h2 (by have := S.bl.size; simp; omega) (own_base po)⟩
          have e : val (ps ++ [1]) = 2 * a + b := by rw [val_snoc, pl, Nat.mul_one, pv]
          rw [← e]
          exact limbs_val lo1 (fun hn => by rw [List.getLast_append_of_ne_nil _ (by simp)]; decide)
        clear S pl plo pv po hq ea
        go_wp2_with (at_builtin; refine wpList_append_own _ rfl _ _ 23 rfl w.heap.size 37 i0 (.int .u32 0) 1 4 Tryd.underlying23 HI.out HZ0.out HZ1.out HZ2.out rfl (by decide) _ n (ps.map lv) rfl (PO.out.alloc _) ⟨wr.heap.size, 0, none⟩ 1 1 [lv (1)] rfl rfl ?qc2 ?qc3 ?qc4 ?qc5 ?qc6 ?_)
        first | (case qc2 => first | exact cell_one_new wr _ _ | exact fun _ _ h => h) | skip
        case qc3 => first | (intro u hu; rw [List.mem_singleton] at hu; rw [hu]; rfl) | rfl
        case qc4 => unfold maxLen; omega
        case qc5 => omega
        case qc6 => first | omega | (simp; omega)
        intro v2 w2 hown hg _
        have STh := Lib.hid (KS.out v2 w2 _ hown hg)
        clear hown hg
        go_wp2_with fail
        obtain ⟨A3, c3, rfl, L3⟩ := own_lim STh.out.1 STh.out.2.1
        have L3 := Lib.hid L3
        go_wp2_with fail
        go_ret
        exact ⟨_, _, _, rfl, by rw [STh.out.2.2.1]; exact L3.out, STh.out.2.2.2⟩

/-- What is in the first loop of half. -/
structure Hfl (w : World) (xs : List Nat) (i : Nat) (v : Value) (wr : World) : Prop where
  ps : ∃ ps, ps.length = i ∧ Lo ps ∧ val xs / 2 = val ps + B ^ i * (val (xs.drop i) / 2) ∧ wr.ownsRow w.heap.size 37 1 v i (ps.map lv)
  bl : Below w.heap.size w wr
theorem hf_next {xs ps : List Nat} {i : Nat} (hi : i < xs.length) (e : val xs / 2 = val ps + B ^ i * (val (xs.drop i) / 2)) (pl : ps.length = i) : val xs / 2 = val (ps ++ [xs[i] / 2 + val (xs.drop (i + 1)) % 2 * 2147483648]) + B ^ (i + 1) * (val (xs.drop (i + 1)) / 2) := by
  rw [val_snoc, pl, e, val_drop xs i hi, B_eq, hf_step, Nat.pow_succ, Nat.mul_add (4294967296 ^ i) (xs[i] / 2 + val (xs.drop (i + 1)) % 2 * 2147483648), Nat.mul_assoc, Nat.add_assoc]
theorem drop_mod_two (xs : List Nat) (i : Nat) : val (xs.drop i) % 2 = lat xs i % 2 := by
  rw [val_mod_two]
  unfold lat
  rw [List.getElem?_drop, Nat.add_zero]
set_option maxHeartbeats 2000000 in
set_option maxRecDepth 100000 in
theorem half_of {A : Option Addr} {n c : Nat} {xs : List Nat} {w : World} (h : Lim w A n c xs) (hn : n ≤ 100000) : Calls Tryd.prog 101 #[.slice A n c] w fun e w' => RetN (val xs / 2) w e w' := by
  have S0 : Hfl w xs 0 (.slice none 0 0) w := ⟨⟨[], rfl, .nil, by simp [val_nil], World.ownsRow_nil w _ _ _⟩, Below.refl _ _⟩
  obtain ⟨i0, hi, hz0, hz1, hz2⟩ := info_parts info_u32
  have HI := Lib.hid hi; have HZ0 := Lib.hid hz0; have HZ1 := Lib.hid hz1; have HZ2 := Lib.hid hz2
  have H := Lib.hid h
  have HL := Lib.hid h.len
  clear h hi hz0 hz1 hz2
  go_enter Tryd.func101, Tryd.ntmps101
  go_wp2_with fail
  go_loopg [3, 4] n (fun q s3 s4 wr => ∃ i : Nat, i + q = n ∧ s4 = .int .i64 (i : Int) ∧ Hfl w xs i s3 wr)
  case atStart => exact ⟨0, by omega, rfl, S0⟩
  case round =>
    clear S0
    obtain ⟨i, hq, rfl, S⟩ := hrel
    have HQ := Lib.hid hq
    obtain ⟨ps, pl, plo, pv, po⟩ := S.ps
    have hb2 : w.heap.size ≤ wr.heap.size := S.bl.size
    have PO := Lib.hid po
    by_cases lt : i < n
    · have il : (i : Int) < n := by omega
      have il0 : (0 : Int) ≤ i := by omega
      have ix : i < xs.length := by rw [HL.out]; exact lt
      obtain ⟨ad, rfl, c1⟩ := (H.out.next S.bl).at_ i ix
      have bx := H.out.lo.at_ i ix
      have KS : Hid (∀ (y : Nat) (v2 : Value) (w2 : World) (o : Obj), lat xs (i + 1) = y → w2.ownsRow w.heap.size 37 1 v2 (i + 1) (ps.map lv ++ [lv (xs[i] / 2 + y % 2 * 2147483648)]) → (wr.alloc o).grownBy w2 (Value.ownBlock u3) → Hfl w xs (i + 1) v2 w2) := by
        intro y v2 w2 o hy h1 h2
        have e := hf_next ix pv pl
        rw [drop_mod_two, hy] at e
        refine ⟨⟨ps ++ [xs[i] / 2 + y % 2 * 2147483648], by simp [pl], plo.append (.cons (by omega) .nil), e, by simpa using h1⟩, ?_⟩
        exact (S.bl.alloc S.bl.size o).grown h2 (by have := S.bl.size; simp; omega) (own_base po)
      generalize xs[i] = x at *
      by_cases l2 : i + 1 < n
      · have il1 : (i : Int) + 1 < n := by omega
        have il2 : (0 : Int) ≤ (i : Int) + 1 := by omega
        have ix2 : i + 1 < xs.length := by rw [HL.out]; exact l2
        have c2 : wr.cell? ⟨ad.block, ad.off + (i + 1), none⟩ = some (lv xs[i + 1]) := by
          obtain ⟨ad', e, hc⟩ := (H.out.next S.bl).at_ (i + 1) ix2
          injection e with e
          subst e
          have e1 : ad.add (i + 1) = ⟨ad.block, ad.off + (i + 1), none⟩ := by unfold Addr.add; rw [if_neg (by omega)]
          rw [e1] at hc
          exact hc
        have bY := H.out.lo.at_ (i + 1) ix2
        have EY := Lib.hid (lat_in ix2)
        generalize xs[i + 1] = y at *
        have E3 : Hid (lv (x / 2 + y % 2 * 2147483648) = Value.int IntKind.u32 (bits BinOp.or IntKind.u32 ((x : Int) / 2) ((y : Int) * 2147483648 % 4294967296))) := congrArg (Value.int .u32) (or_top x y bx).symm
        clear hq S pl plo pv po
        go_wp2_with (at_builtin; refine wpList_append_own _ rfl _ _ 23 rfl w.heap.size 37 i0 (.int .u32 0) 1 4 Tryd.underlying23 HI.out HZ0.out HZ1.out HZ2.out rfl (by decide) _ i (ps.map lv) rfl (PO.out.alloc _) ⟨wr.heap.size, 0, none⟩ 1 1 [lv (x / 2 + y % 2 * 2147483648)] rfl rfl ?qc2 ?qc3 ?qc4 ?qc5 ?qc6 ?_)
        case qc2 => (rw [E3.out]; first | exact cell_one_new wr _ _ | exact fun _ _ h => h)
        case qc3 => first | (intro u hu; rw [List.mem_singleton] at hu; rw [hu]; rfl) | rfl
        case qc4 => unfold maxLen; omega
        case qc5 => omega
        case qc6 => first | omega | (simp; omega)
        intro v2 w2 hown hg _
        have STh := Lib.hid (KS.out y v2 w2 _ EY.out hown hg)
        clear hown hg
        go_wp2_with fail
        go_roundg (gk - 1)
        case measure => have := HQ.out; omega
        case rel =>
          go_light
          exact ⟨i + 1, by have := HQ.out; omega, by go_num, STh.out⟩
      · have il1 : ¬ (i : Int) + 1 < n := by omega
        have EY := Lib.hid (lat_out (xs := xs) (k := i + 1) (by rw [HL.out]; omega))
        have E3 : Hid (lv (x / 2) = Value.int IntKind.u32 ((x : Int) / 2)) := rfl
        clear hq S pl plo pv po
        go_wp2_with (at_builtin; refine wpList_append_own _ rfl _ _ 23 rfl w.heap.size 37 i0 (.int .u32 0) 1 4 Tryd.underlying23 HI.out HZ0.out HZ1.out HZ2.out rfl (by decide) _ i (ps.map lv) rfl (PO.out.alloc _) ⟨wr.heap.size, 0, none⟩ 1 1 [lv (x / 2)] rfl rfl ?qc2 ?qc3 ?qc4 ?qc5 ?qc6 ?_)
        case qc2 => (rw [E3.out]; first | exact cell_one_new wr _ _ | exact fun _ _ h => h)
        case qc3 => first | (intro u hu; rw [List.mem_singleton] at hu; rw [hu]; rfl) | rfl
        case qc4 => unfold maxLen; omega
        case qc5 => omega
        case qc6 => first | omega | (simp; omega)
        intro v2 w2 hown hg _
        have STh := Lib.hid (KS.out 0 v2 w2 _ EY.out hown hg)
        clear hown hg
        go_wp2_with fail
        go_roundg (gk - 1)
        case measure => have := HQ.out; omega
        case rel =>
          go_light
          exact ⟨i + 1, by have := HQ.out; omega, by go_num, STh.out⟩
    · obtain rfl : n = i := by omega
      have il : ¬ (n : Int) < n := by omega
      rw [List.drop_of_length_le (by rw [HL.out]; exact Nat.le_refl _), val_nil, Nat.zero_div, Nat.mul_zero, Nat.add_zero] at pv
      obtain ⟨A2, c2, rfl, L2⟩ := own_lim po plo
      have PV := Lib.hid pv.symm; have L := Lib.hid L2; have BL := Lib.hid S.bl
      have hc := L2.cap; have ht := L2.top
      clear hq S pl plo pv po L2 HQ lt PO
      go_wp2_with fail
      go_loopg [3] n (fun g s3 wq => g ≤ n ∧ s3 = .slice A2 g c2 ∧ Hid (val (ps.take g) = val ps) ∧ wr = wq)
      case atStart => exact ⟨Nat.le_refl _, rfl, by unfold Hid; rw [List.take_of_length_le (by rw [L.out.len]; exact Nat.le_refl _)], rfl⟩
      case round =>
        obtain ⟨hg, rfl, hvv, rfl⟩ := hrel
        have HT := Lib.hid (L.out.take hg)
        by_cases hz : gk = 0
        · subst hz
          have HV : Hid (limbs (val xs / 2) = []) := by unfold Hid; rw [← PV.out, ← hvv.out]; simp [val_nil, limbs_zero]
          go_wp2_with fail
          go_ret
          exact ⟨_, 0, _, rfl, by rw [HV.out]; exact Lim.none_ _ _ _ (by omega), BL.out⟩
        · obtain ⟨k, rfl⟩ : ∃ k, gk = k + 1 := ⟨gk - 1, by omega⟩
          obtain ⟨ad, rfl⟩ := L.out.some_ (by omega)
          have hkx : k < ps.length := by rw [L.out.len]; omega
          have hcell := L.out.cell k hkx
          by_cases hx : ps[k] = 0
          · have HV : Hid (val (ps.take k) = val ps) := by
              unfold Hid; rw [← hvv.out, val_take_succ ps k hkx, hx, Nat.mul_zero, Nat.add_zero]
            rw [hx] at hcell
            clear hx hvv HT
            go_wp2_with fail
            go_roundg k
            case measure => omega
            case rel => exact ⟨by omega, rfl, HV, rfl⟩
          · have HV : Hid (limbs (val xs / 2) = ps.take (k + 1)) := by
              unfold Hid
              rw [← PV.out, ← hvv.out]
              refine limbs_val (L.out.lo.take _) (getLast_ne (x := ps[k]) ?_ hx)
              rw [List.length_take, Nat.min_eq_left (by omega), Nat.add_sub_cancel, List.getElem?_take, if_pos (by omega), List.getElem?_eq_getElem hkx]
            generalize ps[k] = x at *
            have h2 : ((x : Int) == 0) = false := by simpa using hx
            clear hx hvv
            go_wp2_with fail
            go_ret
            exact ⟨_, _, _, rfl, by rw [HV.out]; exact HT.out, BL.out⟩
set_option maxRecDepth 100000 in
theorem even_any {A : Option Addr} {n c : Nat} {xs : List Nat} {w : World} (h : Lim w A n c xs) : Calls Tryd.prog 100 #[.slice A n c] w fun e w' => e = .returned (.bool (decide (val xs % 2 = 0))) ∧ w = w' := by
  have hl := h.len
  by_cases hz : n = 0
  · subst hz
    have e := List.eq_nil_of_length_eq_zero hl
    subst e
    clear h hl
    go_enter Tryd.func100, Tryd.ntmps100
    go_wp2
    go_ret
    exact ⟨rfl, rfl⟩
  · obtain ⟨ad, rfl⟩ := h.some_ (by omega)
    have hx : 0 < xs.length := by omega
    have hc := h.cell 0 hx
    have E : Hid (val xs % 2 = xs[0] % 2) := by unfold Hid; rw [val_mod_two, lat_in hx]
    generalize xs[0] = x at *
    have h1 : ((n : Int) == 0) = false := by simpa using hz
    have hn0 : (0 : Int) < n := by omega
    have e0 : ad.add 0 = ad := by unfold Addr.add; rw [if_pos rfl]
    rw [e0] at hc
    clear h hl e0
    go_enter Tryd.func100, Tryd.ntmps100
    go_wp2
    go_ret
    refine ⟨congrArg (fun b => Ending.returned (.bool b)) ?_, rfl⟩
    rw [E.out]
    by_cases hh : x % 2 = 0
    · have h2 : (x : Int) % 2 = 0 := by omega
      rw [h2, hh]; rfl
    · have h2 : (x : Int) % 2 = 1 := by omega
      have h3 : x % 2 = 1 := by omega
      rw [h2, h3]; rfl
end Go.Proofs.YtnacokogihanoaaDoor
