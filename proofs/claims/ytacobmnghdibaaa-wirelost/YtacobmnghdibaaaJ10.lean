/- The document's answers: the walks of twice, half, even. The document's answers: the walks of Add, Sub. The document's answers: the walk of Sub. The document's answers: the walk of Bits. The document's answers: the walk of Div. -/
import Derived.Test.YtacobmnghdibaaaJ09
import Derived.Test.YtacobmnghdibaaaJ05
import Derived.Test.YtacobmnghdibaaaJ06
namespace Go.Proofs.Ytacobmnghdibaaa
open Go.RowKit
set_option linter.unusedVariables false
set_option linter.unusedSimpArgs false

/-- What is in the loop of twice. -/
structure Tw (w : World) (xs : List Nat) (b i k : Nat) (v : Value) (wr : World) : Prop where
  ps : ∃ ps, ps.length = i ∧ Lo ps ∧ val ps + B ^ i * k = 2 * val (xs.take i) + b ∧ wr.ownsRow w.heap.size 62 1 v i (ps.map lv)
  k1 : k ≤ 1
  bl : Below w.heap.size w wr
set_option maxHeartbeats 2000000 in
set_option maxRecDepth 100000 in
theorem twice_any {A : Option Addr} {n c a b : Nat} {w : World} (h : Lim w A n c (limbs a)) (hb : b ≤ 1) (hn : n ≤ 100000) : Calls Try.prog 60 #[.slice A n c, lv b] w fun e w' => RetN (2 * a + b) w e w' := by
  have S0 : Tw w (limbs a) b 0 b (.slice none 0 0) w := ⟨⟨[], rfl, .nil, by simp [val_nil], World.ownsRow_nil w _ _ _⟩, hb, Below.refl _ _⟩
  obtain ⟨i0, hi, hz0, hz1, hz2⟩ := info_parts info_u32
  have HI := Lib.hid hi; have HZ0 := Lib.hid hz0; have HZ1 := Lib.hid hz1; have HZ2 := Lib.hid hz2
  have H := Lib.hid h
  have HL := Lib.hid h.len
  clear h hi hz0 hz1 hz2
  go_enter Try.func60, Try.ntmps60
  go_wp2_with fail
  go_loopg [5, 6, 7] n (fun q s5 s6 s7 wr => ∃ i k : Nat, i + q = n ∧ s7 = .int .i64 (i : Int) ∧ s6 = lv k ∧ Tw w (limbs a) b i k s5 wr)
  case atStart => exact ⟨0, b, by omega, rfl, rfl, S0⟩
  case round =>
    clear S0
    obtain ⟨i, k, hq, rfl, rfl, S⟩ := hrel
    have HQ := Lib.hid hq
    obtain ⟨ps, pl, plo, pv, po⟩ := S.ps
    have hk := S.k1
    have hb2 : w.heap.size ≤ wr.heap.size := S.bl.size
    have PO := Lib.hid po
    by_cases lt : i < n
    · have il : (i : Int) < n := by omega
      have il0 : (0 : Int) ≤ i := by omega
      have ix : i < (limbs a).length := by rw [HL.out]; exact lt
      obtain ⟨ad, rfl, c1⟩ := (H.out.next S.bl).at_ i ix
      have bx := (lo_limbs a).at_ i ix
      have KS : Hid (∀ (v2 : Value) (w2 : World) (o : Obj), w2.ownsRow w.heap.size 62 1 v2 (i + 1) (ps.map lv ++ [lv ((limbs a)[i] * 2 % 4294967296 + k)]) → (wr.alloc o).grownBy w2 (Value.ownBlock u5) → Tw w (limbs a) b (i + 1) ((limbs a)[i] / 2147483648) v2 w2) := by
        intro v2 w2 o h1 h2
        refine ⟨⟨ps ++ [(limbs a)[i] * 2 % 4294967296 + k], by simp [pl], plo.append (.cons (by omega) .nil), ?_, by simpa using h1⟩, by omega, ?_⟩
        · rw [val_snoc, pl, val_take_succ _ i ix, Nat.pow_succ]
          have := tw_step (x := (limbs a)[i]) pv
          rw [B_eq] at *
          omega
        · exact (S.bl.alloc S.bl.size o).grown h2 (by have := S.bl.size; simp; omega) (own_base po)
      have CX : Hid (∀ W, Below w.heap.size w W → W.cell? (ad.add i) = some (lv (limbs a)[i])) := fun W hW => (H.out.next hW).cell i ix
      generalize (limbs a)[i] = x at *
      have E3 : Hid (lv (x * 2 % 4294967296 + k) = Value.int IntKind.u32 (bits BinOp.or IntKind.u32 ((x : Int) * 2 % 4294967296) (k : Int))) := congrArg (Value.int .u32) (or_bit x k hk).symm
      clear hq S pl plo pv po
      go_wp2_with (at_builtin; refine wpList_append_own _ rfl _ _ 24 rfl w.heap.size 62 i0 (.int .u32 0) 1 4 Try.underlying24 HI.out HZ0.out HZ1.out HZ2.out rfl (by decide) _ i (ps.map lv) rfl (PO.out.alloc _) ⟨wr.heap.size, 0, none⟩ 1 1 [lv (x * 2 % 4294967296 + k)] rfl rfl ?qc2 ?qc3 ?qc4 ?qc5 ?qc6 ?_)
      case qc2 => (rw [E3.out]; first | exact cell_one_new wr _ _ | exact fun _ _ h => h)
      case qc3 => first | (intro u hu; rw [List.mem_singleton] at hu; rw [hu]; rfl) | rfl
      case qc4 => unfold maxLen; omega
      case qc5 => omega
      case qc6 => first | omega | (simp; omega)
      intro v2 w2 hown hg _
      have STh := Lib.hid (KS.out v2 w2 _ hown hg)
      have c1b := CX.out w2 STh.out.bl
      clear hown hg
      go_wp2_with fail
      go_roundg (gk - 1)
      case measure => have := HQ.out; omega
      case rel =>
        go_light
        exact ⟨i + 1, x / 2147483648, by have := HQ.out; omega, by go_num, rfl, STh.out⟩
    · obtain rfl : n = i := by omega
      have il : ¬ (n : Int) < n := by omega
      rw [List.take_of_length_le (by rw [HL.out]; exact Nat.le_refl _), val_limbs] at pv
      have ea : n = ln a := by rw [← HL.out, limbs_length]
      have BL := Lib.hid S.bl
      by_cases k0 : k = 0
      · subst k0
        rw [Nat.mul_zero, Nat.add_zero] at pv
        have EZ : Hid (limbs (2 * a + b) = ps) := by
          unfold Hid
          rw [← pv]
          refine limbs_full plo ?_
          by_cases a0 : a = 0
          · left
            rw [a0, ln_zero] at ea
            exact List.eq_nil_of_length_eq_zero (by omega)
          · right
            rw [pl, ea, pv]
            have := le_of_ln a0
            omega
        obtain ⟨A3, c3, rfl, L3⟩ := own_lim po plo
        have L3 := Lib.hid L3
        have k00 : ¬ (0 : Int) < ((0 : Nat) : Int) := by omega
        clear S pl plo pv po hq ea
        go_wp2_with fail
        go_ret
        exact ⟨_, _, _, rfl, by rw [EZ.out]; exact L3.out, BL.out⟩
      · obtain rfl : k = 1 := by omega
        rw [Nat.mul_one] at pv
        have E3 : Hid (lv 1 = Value.int IntKind.u32 1) := rfl
        have KS : Hid (∀ (v2 : Value) (w2 : World) (o : Obj), w2.ownsRow w.heap.size 62 1 v2 (n + 1) (ps.map lv ++ [lv 1]) → (wr.alloc o).grownBy w2 (Value.ownBlock u5) → w2.ownsRow w.heap.size 62 1 v2 (n + 1) ((ps ++ [1]).map lv) ∧ Lo (ps ++ [1]) ∧ limbs (2 * a + b) = ps ++ [1] ∧ Below w.heap.size w w2) := by
          intro v2 w2 o h1 h2
          have lo1 : Lo (ps ++ [1]) := plo.append (.cons (by decide) .nil)
          refine ⟨by simpa using h1, lo1, ?_, (S.bl.alloc S.bl.size o).grown h2 (by have := S.bl.size; simp; omega) (own_base po)⟩
          have e : val (ps ++ [1]) = 2 * a + b := by rw [val_snoc, pl, Nat.mul_one, pv]
          rw [← e]
          exact limbs_val lo1 (fun hn => by rw [List.getLast_append_of_ne_nil _ (by simp)]; decide)
        clear S pl plo pv po hq ea
        go_wp2_with (at_builtin; refine wpList_append_own _ rfl _ _ 24 rfl w.heap.size 62 i0 (.int .u32 0) 1 4 Try.underlying24 HI.out HZ0.out HZ1.out HZ2.out rfl (by decide) _ n (ps.map lv) rfl (PO.out.alloc _) ⟨wr.heap.size, 0, none⟩ 1 1 [lv (1)] rfl rfl ?qc2 ?qc3 ?qc4 ?qc5 ?qc6 ?_)
        first | (case qc2 => first | exact cell_one_new wr _ _ | exact fun _ _ h => h) | skip
        case qc3 => first | (intro u hu; rw [List.mem_singleton] at hu; rw [hu]; rfl) | rfl
        case qc4 => unfold maxLen; omega
        case qc5 => omega
        case qc6 => first | omega | (simp; omega)
        intro v2 w2 hown hg _
        have STh := Lib.hid (KS.out v2 w2 _ hown hg)
        clear hown hg
        go_wp2_with fail
        obtain ⟨A3, c3, rfl, L3⟩ := own_lim STh.out.1 STh.out.2.1
        have L3 := Lib.hid L3
        go_wp2_with fail
        go_ret
        exact ⟨_, _, _, rfl, by rw [STh.out.2.2.1]; exact L3.out, STh.out.2.2.2⟩

/-- What is in the first loop of half. -/
structure Hfl (w : World) (xs : List Nat) (i : Nat) (v : Value) (wr : World) : Prop where
  ps : ∃ ps, ps.length = i ∧ Lo ps ∧ val xs / 2 = val ps + B ^ i * (val (xs.drop i) / 2) ∧ wr.ownsRow w.heap.size 62 1 v i (ps.map lv)
  bl : Below w.heap.size w wr
theorem hf_next {xs ps : List Nat} {i : Nat} (hi : i < xs.length) (e : val xs / 2 = val ps + B ^ i * (val (xs.drop i) / 2)) (pl : ps.length = i) : val xs / 2 = val (ps ++ [xs[i] / 2 + val (xs.drop (i + 1)) % 2 * 2147483648]) + B ^ (i + 1) * (val (xs.drop (i + 1)) / 2) := by
  rw [val_snoc, pl, e, val_drop xs i hi, B_eq, hf_step, Nat.pow_succ, Nat.mul_add (4294967296 ^ i) (xs[i] / 2 + val (xs.drop (i + 1)) % 2 * 2147483648), Nat.mul_assoc, Nat.add_assoc]
theorem drop_mod_two (xs : List Nat) (i : Nat) : val (xs.drop i) % 2 = lat xs i % 2 := by
  rw [val_mod_two]
  unfold lat
  rw [List.getElem?_drop, Nat.add_zero]
set_option maxHeartbeats 2000000 in
set_option maxRecDepth 100000 in
theorem half_of {A : Option Addr} {n c : Nat} {xs : List Nat} {w : World} (h : Lim w A n c xs) (hn : n ≤ 100000) : Calls Try.prog 57 #[.slice A n c] w fun e w' => RetN (val xs / 2) w e w' := by
  have S0 : Hfl w xs 0 (.slice none 0 0) w := ⟨⟨[], rfl, .nil, by simp [val_nil], World.ownsRow_nil w _ _ _⟩, Below.refl _ _⟩
  obtain ⟨i0, hi, hz0, hz1, hz2⟩ := info_parts info_u32
  have HI := Lib.hid hi; have HZ0 := Lib.hid hz0; have HZ1 := Lib.hid hz1; have HZ2 := Lib.hid hz2
  have H := Lib.hid h
  have HL := Lib.hid h.len
  clear h hi hz0 hz1 hz2
  go_enter Try.func57, Try.ntmps57
  go_wp2_with fail
  go_loopg [3, 4] n (fun q s3 s4 wr => ∃ i : Nat, i + q = n ∧ s4 = .int .i64 (i : Int) ∧ Hfl w xs i s3 wr)
  case atStart => exact ⟨0, by omega, rfl, S0⟩
  case round =>
    clear S0
    obtain ⟨i, hq, rfl, S⟩ := hrel
    have HQ := Lib.hid hq
    obtain ⟨ps, pl, plo, pv, po⟩ := S.ps
    have hb2 : w.heap.size ≤ wr.heap.size := S.bl.size
    have PO := Lib.hid po
    by_cases lt : i < n
    · have il : (i : Int) < n := by omega
      have il0 : (0 : Int) ≤ i := by omega
      have ix : i < xs.length := by rw [HL.out]; exact lt
      obtain ⟨ad, rfl, c1⟩ := (H.out.next S.bl).at_ i ix
      have bx := H.out.lo.at_ i ix
      have KS : Hid (∀ (y : Nat) (v2 : Value) (w2 : World) (o : Obj), lat xs (i + 1) = y → w2.ownsRow w.heap.size 62 1 v2 (i + 1) (ps.map lv ++ [lv (xs[i] / 2 + y % 2 * 2147483648)]) → (wr.alloc o).grownBy w2 (Value.ownBlock u3) → Hfl w xs (i + 1) v2 w2) := by
        intro y v2 w2 o hy h1 h2
        have e := hf_next ix pv pl
        rw [drop_mod_two, hy] at e
        refine ⟨⟨ps ++ [xs[i] / 2 + y % 2 * 2147483648], by simp [pl], plo.append (.cons (by omega) .nil), e, by simpa using h1⟩, ?_⟩
        exact (S.bl.alloc S.bl.size o).grown h2 (by have := S.bl.size; simp; omega) (own_base po)
      generalize xs[i] = x at *
      by_cases l2 : i + 1 < n
      · have il1 : (i : Int) + 1 < n := by omega
        have il2 : (0 : Int) ≤ (i : Int) + 1 := by omega
        have ix2 : i + 1 < xs.length := by rw [HL.out]; exact l2
        have c2 : wr.cell? ⟨ad.block, ad.off + (i + 1), none⟩ = some (lv xs[i + 1]) := by
          obtain ⟨ad', e, hc⟩ := (H.out.next S.bl).at_ (i + 1) ix2
          injection e with e
          subst e
          have e1 : ad.add (i + 1) = ⟨ad.block, ad.off + (i + 1), none⟩ := by unfold Addr.add; rw [if_neg (by omega)]
          rw [e1] at hc
          exact hc
        have bY := H.out.lo.at_ (i + 1) ix2
        have EY := Lib.hid (lat_in ix2)
        generalize xs[i + 1] = y at *
        have E3 : Hid (lv (x / 2 + y % 2 * 2147483648) = Value.int IntKind.u32 (bits BinOp.or IntKind.u32 ((x : Int) / 2) ((y : Int) * 2147483648 % 4294967296))) := congrArg (Value.int .u32) (or_top x y bx).symm
        clear hq S pl plo pv po
        go_wp2_with (at_builtin; refine wpList_append_own _ rfl _ _ 24 rfl w.heap.size 62 i0 (.int .u32 0) 1 4 Try.underlying24 HI.out HZ0.out HZ1.out HZ2.out rfl (by decide) _ i (ps.map lv) rfl (PO.out.alloc _) ⟨wr.heap.size, 0, none⟩ 1 1 [lv (x / 2 + y % 2 * 2147483648)] rfl rfl ?qc2 ?qc3 ?qc4 ?qc5 ?qc6 ?_)
        case qc2 => (rw [E3.out]; first | exact cell_one_new wr _ _ | exact fun _ _ h => h)
        case qc3 => first | (intro u hu; rw [List.mem_singleton] at hu; rw [hu]; rfl) | rfl
        case qc4 => unfold maxLen; omega
        case qc5 => omega
        case qc6 => first | omega | (simp; omega)
        intro v2 w2 hown hg _
        have STh := Lib.hid (KS.out y v2 w2 _ EY.out hown hg)
        clear hown hg
        go_wp2_with fail
        go_roundg (gk - 1)
        case measure => have := HQ.out; omega
        case rel =>
          go_light
          exact ⟨i + 1, by have := HQ.out; omega, by go_num, STh.out⟩
      · have il1 : ¬ (i : Int) + 1 < n := by omega
        have EY := Lib.hid (lat_out (xs := xs) (k := i + 1) (by rw [HL.out]; omega))
        have E3 : Hid (lv (x / 2) = Value.int IntKind.u32 ((x : Int) / 2)) := rfl
        clear hq S pl plo pv po
        go_wp2_with (at_builtin; refine wpList_append_own _ rfl _ _ 24 rfl w.heap.size 62 i0 (.int .u32 0) 1 4 Try.underlying24 HI.out HZ0.out HZ1.out HZ2.out rfl (by decide) _ i (ps.map lv) rfl (PO.out.alloc _) ⟨wr.heap.size, 0, none⟩ 1 1 [lv (x / 2)] rfl rfl ?qc2 ?qc3 ?qc4 ?qc5 ?qc6 ?_)
        case qc2 => (rw [E3.out]; first | exact cell_one_new wr _ _ | exact fun _ _ h => h)
        case qc3 => first | (intro u hu; rw [List.mem_singleton] at hu; rw [hu]; rfl) | rfl
        case qc4 => unfold maxLen; omega
        case qc5 => omega
        case qc6 => first | omega | (simp; omega)
        intro v2 w2 hown hg _
        have STh := Lib.hid (KS.out 0 v2 w2 _ EY.out hown hg)
        clear hown hg
        go_wp2_with fail
        go_roundg (gk - 1)
        case measure => have := HQ.out; omega
        case rel =>
          go_light
          exact ⟨i + 1, by have := HQ.out; omega, by go_num, STh.out⟩
    · obtain rfl : n = i := by omega
      have il : ¬ (n : Int) < n := by omega
      rw [List.drop_of_length_le (by rw [HL.out]; exact Nat.le_refl _), val_nil, Nat.zero_div, Nat.mul_zero, Nat.add_zero] at pv
      obtain ⟨A2, c2, rfl, L2⟩ := own_lim po plo
      have PV := Lib.hid pv.symm; have L := Lib.hid L2; have BL := Lib.hid S.bl
      have hc := L2.cap; have ht := L2.top
      clear hq S pl plo pv po L2 HQ lt PO
      go_wp2_with fail
      go_loopg [3] n (fun g s3 wq => g ≤ n ∧ s3 = .slice A2 g c2 ∧ Hid (val (ps.take g) = val ps) ∧ wr = wq)
      case atStart => exact ⟨Nat.le_refl _, rfl, by unfold Hid; rw [List.take_of_length_le (by rw [L.out.len]; exact Nat.le_refl _)], rfl⟩
      case round =>
        obtain ⟨hg, rfl, hvv, rfl⟩ := hrel
        have HT := Lib.hid (L.out.take hg)
        by_cases hz : gk = 0
        · subst hz
          have HV : Hid (limbs (val xs / 2) = []) := by unfold Hid; rw [← PV.out, ← hvv.out]; simp [val_nil, limbs_zero]
          go_wp2_with fail
          go_ret
          exact ⟨_, 0, _, rfl, by rw [HV.out]; exact Lim.none_ _ _ _ (by omega), BL.out⟩
        · obtain ⟨k, rfl⟩ : ∃ k, gk = k + 1 := ⟨gk - 1, by omega⟩
          obtain ⟨ad, rfl⟩ := L.out.some_ (by omega)
          have hkx : k < ps.length := by rw [L.out.len]; omega
          have hcell := L.out.cell k hkx
          by_cases hx : ps[k] = 0
          · have HV : Hid (val (ps.take k) = val ps) := by
              unfold Hid; rw [← hvv.out, val_take_succ ps k hkx, hx, Nat.mul_zero, Nat.add_zero]
            rw [hx] at hcell
            clear hx hvv HT
            go_wp2_with fail
            go_roundg k
            case measure => omega
            case rel => exact ⟨by omega, rfl, HV, rfl⟩
          · have HV : Hid (limbs (val xs / 2) = ps.take (k + 1)) := by
              unfold Hid
              rw [← PV.out, ← hvv.out]
              refine limbs_val (L.out.lo.take _) (getLast_ne (x := ps[k]) ?_ hx)
              rw [List.length_take, Nat.min_eq_left (by omega), Nat.add_sub_cancel, List.getElem?_take, if_pos (by omega), List.getElem?_eq_getElem hkx]
            generalize ps[k] = x at *
            have h2 : ((x : Int) == 0) = false := by simpa using hx
            clear hx hvv
            go_wp2_with fail
            go_ret
            exact ⟨_, _, _, rfl, by rw [HV.out]; exact HT.out, BL.out⟩
set_option maxRecDepth 100000 in
theorem even_any {A : Option Addr} {n c : Nat} {xs : List Nat} {w : World} (h : Lim w A n c xs) : Calls Try.prog 56 #[.slice A n c] w fun e w' => e = .returned (.bool (decide (val xs % 2 = 0))) ∧ w = w' := by
  have hl := h.len
  by_cases hz : n = 0
  · subst hz
    have e := List.eq_nil_of_length_eq_zero hl
    subst e
    clear h hl
    go_enter Try.func56, Try.ntmps56
    go_wp2
    go_ret
    exact ⟨rfl, rfl⟩
  · obtain ⟨ad, rfl⟩ := h.some_ (by omega)
    have hx : 0 < xs.length := by omega
    have hc := h.cell 0 hx
    have E : Hid (val xs % 2 = xs[0] % 2) := by unfold Hid; rw [val_mod_two, lat_in hx]
    generalize xs[0] = x at *
    have h1 : ((n : Int) == 0) = false := by simpa using hz
    have hn0 : (0 : Int) < n := by omega
    have e0 : ad.add 0 = ad := by unfold Addr.add; rw [if_pos rfl]
    rw [e0] at hc
    clear h hl e0
    go_enter Try.func56, Try.ntmps56
    go_wp2
    go_ret
    refine ⟨congrArg (fun b => Ending.returned (.bool b)) ?_, rfl⟩
    rw [E.out]
    by_cases hh : x % 2 = 0
    · have h2 : (x : Int) % 2 = 0 := by omega
      rw [h2, hh]; rfl
    · have h2 : (x : Int) % 2 = 1 := by omega
      have h3 : x % 2 = 1 := by omega
      rw [h2, h3]; rfl
end Go.Proofs.Ytacobmnghdibaaa
namespace Go.Proofs.Ytacobmnghdibaaa
open Go.RowKit
set_option linter.unusedVariables false
set_option linter.unusedSimpArgs false

theorem whole_at {A : Option Addr} {T n c : Nat} {hs : List Nat} {w : World} (hT : 2 * n = T) (h : Hl w A T hs) (ld : Ld hs) (hn : n ≤ 1000000) : Calls Try.prog 79 #[.slice A T c] w fun e w' => RetN (hval hs) w e w' := by
  subst hT
  exact whole_any h ld hn
theorem own_any {w : World} {base n : Nat} {v : Value} {hs : List Nat} (h : w.ownsRow base 22 1 v n (hs.map hv)) : ∃ A c g zs, v = .slice A n c ∧ base ≤ g ∧ hs.length = n ∧ (0 < n → A = some ⟨g, 0, none⟩ ∧ g < w.heap.size ∧ Hrow w g hs zs) := by
  by_cases hn : 0 < n
  · obtain ⟨g, c, zs, rfl, hb, _, _, hl, hr⟩ := own_hrow h hn
    exact ⟨_, c, g, zs, rfl, hb, hl, fun _ => ⟨rfl, hr.lt, hr⟩⟩
  · have hl : hs.length = n := by have := h.1; simpa using this
    rcases h.2 with ⟨rfl, rfl⟩ | ⟨g, cap, cur, rfl, h0, hb, h1, h2, h3, h4⟩
    · exact ⟨none, 0, base, [], rfl, Nat.le_refl _, hl, fun k => absurd k (by omega)⟩
    · exact ⟨_, cap, base, [], rfl, Nat.le_refl _, hl, fun k => absurd k hn⟩
theorem hl_of {w : World} {A : Option Addr} {g T : Nat} {ss : List Nat} {zs : List Value} (h : 0 < T → A = some ⟨g, 0, none⟩) (r : 0 < T → Hrow w g ss zs) (sl : ss.length = T) : Hl w A T ss := by
  by_cases hT : 0 < T
  · rw [h hT]; exact (r hT).hl sl
  · exact ⟨sl, fun j hj => by omega⟩
theorem mid_set (X ss : List Nat) (i v : Nat) (hi : i < X.length) (hs : ss.length = i) : (ss ++ X.drop i).set i v = ss ++ [v] ++ X.drop (i + 1) := by
  have e := set_part X ss v 0 i (by omega) hs
  simpa only [List.take_zero, List.nil_append, Nat.zero_add] using e
theorem mid_at (X ss : List Nat) (i : Nat) (hi : i < X.length) (hs : ss.length = i) : (ss ++ X.drop i)[i]? = some X[i] := by
  have e := part_at X ss 0 i (by omega) hs
  simpa only [List.take_zero, List.nil_append, Nat.zero_add] using e
theorem mid_len (X ss : List Nat) (i : Nat) (hi : i ≤ X.length) (hs : ss.length = i) : (ss ++ X.drop i).length = X.length := by simp; omega

/-- What is in the loop of Add. -/
structure Had (w : World) (g : Nat) (X Y : List Nat) (zs : List Value) (i k : Nat) (wr : World) : Prop where
  ss : ∃ ss, ss.length = i ∧ Ld ss ∧ hval ss + H16 ^ i * k = hval (X.take i) + hval (Y.take i) ∧ (0 < X.length → Hrow wr g (ss ++ X.drop i) zs)
  k1 : k ≤ 1
  t : Turn w wr g
section
variable {w : World} {g : Nat} {X Y : List Nat} {zs : List Value} {i k : Nat} {wr : World}
theorem Had.drew (h : Had w g X Y zs i k wr) : Had w g X Y zs i k wr.drew := by
  obtain ⟨ss, a, b, c, r⟩ := h.ss
  exact ⟨⟨ss, a, b, c, fun q => (r q).drew⟩, h.k1, h.t.drew⟩
theorem Had.cell (h : Had w g X Y zs i k wr) (hx : i < X.length) : wr.cell? ⟨g, i, none⟩ = some (.int .u64 (X[i] : Int)) ∧ wr.frozen? ⟨g, i, none⟩ = false := by
  obtain ⟨ss, a, b, c, r⟩ := h.ss
  exact ⟨(r (by omega)).cell' (mid_at X ss i hx a), (r (by omega)).melt _⟩
theorem Had.step (h : Had w g X Y zs i k wr) (hx : i < X.length) (hy : i < Y.length) (LX : Ld X) (LY : Ld Y) :
    Had w g X Y zs (i + 1) ((X[i] + Y[i] + k) / 65536) (wr.setCell ⟨g, i, none⟩ (hv ((X[i] + Y[i] + k) % 65536))) := by
  obtain ⟨ss, hl, ld, hval_, r⟩ := h.ss
  have hk := h.k1
  have b1 := LX.at_ i hx
  have b2 := LY.at_ i hy
  refine ⟨⟨ss ++ [(X[i] + Y[i] + k) % 65536], by simp [hl], ld.append (.cons (Nat.mod_lt _ (by decide)) .nil), ?_, fun q => ?_⟩, by omega, h.t.setCell _ _⟩
  · rw [hval_snoc, hl, hval_take_succ X i hx, hval_take_succ Y i hy, Nat.pow_succ]
    have := had_step (c := X[i] + Y[i] + k) hval_ (x := X[i]) (y := Y[i]) rfl
    rw [← H16_eq] at this
    rw [H16_eq] at *
    omega
  · have := (r q).set_ i (by rw [mid_len X ss i (by omega) hl]; exact hx) ((X[i] + Y[i] + k) % 65536)
    rwa [mid_set X ss i _ hx hl] at this
theorem Had.done {T : Nat} (h : Had w g X Y zs T k wr) (hx : X.length = T) (hy : Y.length = T) (lt : hval X + hval Y < H16 ^ T) :
    ∃ ss, ss.length = T ∧ Ld ss ∧ hval ss = hval X + hval Y ∧ (0 < T → Hrow wr g ss zs) := by
  obtain ⟨ss, hl, ld, hv_, r⟩ := h.ss
  rw [List.take_of_length_le (by omega), List.take_of_length_le (by omega)] at hv_
  have e : ss ++ X.drop T = ss := by rw [List.drop_of_length_le (by omega), List.append_nil]
  rw [e, hx] at r
  refine ⟨ss, hl, ld, ?_, r⟩
  have hk := h.k1
  have : k = 0 ∨ k = 1 := by omega
  rcases this with rfl | rfl
  · omega
  · rw [Nat.mul_one] at hv_; omega
end
theorem sum_lt {xs ys : List Nat} {M : Nat} (lx : Lo xs) (ly : Lo ys) (hx : xs.length ≤ M) (hy : ys.length ≤ M) : val xs + val ys < H16 ^ (2 * (M + 1)) := by
  have a := val_lt lx
  have b := val_lt ly
  have a' := Nat.pow_le_pow_right B_pos hx
  have b' := Nat.pow_le_pow_right B_pos hy
  rw [H16_pow, Nat.pow_succ]
  have : B ^ M * 2 ≤ B ^ M * B := Nat.mul_le_mul_left _ (by rw [B_eq]; decide)
  omega
theorem u64_sum (x y k : Nat) : Value.int IntKind.u64 (((x : Int) + (y : Int) + (k : Int)) % 65536) = hv ((x + y + k) % 65536) := congrArg (Value.int .u64) (by omega)
theorem u64_over (x y k : Nat) : Value.int IntKind.u64 (((x : Int) + (y : Int) + (k : Int)) / 65536) = hv ((x + y + k) / 65536) := congrArg (Value.int .u64) (by omega)

end Go.Proofs.Ytacobmnghdibaaa
namespace Go.Proofs.Ytacobmnghdibaaa
open Go.RowKit
set_option linter.unusedVariables false
set_option linter.unusedSimpArgs false

/-- What is in the loop of Sub. -/
structure Hsb (w : World) (g : Nat) (X Y : List Nat) (zs : List Value) (i k : Nat) (wr : World) : Prop where
  ss : ∃ ss, ss.length = i ∧ Ld ss ∧ hval (X.take i) + H16 ^ i * k = hval ss + hval (Y.take i) ∧ (0 < X.length → Hrow wr g (ss ++ X.drop i) zs)
  k1 : k ≤ 1
  t : Turn w wr g
section
variable {w : World} {g : Nat} {X Y : List Nat} {zs : List Value} {i k : Nat} {wr : World}
theorem Hsb.drew (h : Hsb w g X Y zs i k wr) : Hsb w g X Y zs i k wr.drew := by
  obtain ⟨ss, a, b, c, r⟩ := h.ss
  exact ⟨⟨ss, a, b, c, fun q => (r q).drew⟩, h.k1, h.t.drew⟩
theorem Hsb.cell (h : Hsb w g X Y zs i k wr) (hx : i < X.length) : wr.cell? ⟨g, i, none⟩ = some (.int .u64 (X[i] : Int)) ∧ wr.frozen? ⟨g, i, none⟩ = false := by
  obtain ⟨ss, a, b, c, r⟩ := h.ss
  exact ⟨(r (by omega)).cell' (mid_at X ss i hx a), (r (by omega)).melt _⟩
theorem Hsb.step (h : Hsb w g X Y zs i k wr) (hx : i < X.length) (hy : i < Y.length) (LX : Ld X) (LY : Ld Y) :
    Hsb w g X Y zs (i + 1) (1 - (65536 + X[i] - Y[i] - k) / 65536) (wr.setCell ⟨g, i, none⟩ (hv ((65536 + X[i] - Y[i] - k) % 65536))) := by
  obtain ⟨ss, hl, ld, hval_, r⟩ := h.ss
  have hk := h.k1
  have b1 := LX.at_ i hx
  have b2 := LY.at_ i hy
  refine ⟨⟨ss ++ [(65536 + X[i] - Y[i] - k) % 65536], by simp [hl], ld.append (.cons (Nat.mod_lt _ (by decide)) .nil), ?_, fun q => ?_⟩, by omega, h.t.setCell _ _⟩
  · rw [hval_snoc, hl, hval_take_succ X i hx, hval_take_succ Y i hy, Nat.pow_succ]
    have := hsb_step hval_ (hsb_limb X[i] Y[i] k b1 b2 hk)
    rw [H16_eq] at *
    omega
  · have := (r q).set_ i (by rw [mid_len X ss i (by omega) hl]; exact hx) ((65536 + X[i] - Y[i] - k) % 65536)
    rwa [mid_set X ss i _ hx hl] at this
theorem Hsb.done {T : Nat} (h : Hsb w g X Y zs T k wr) (hx : X.length = T) (hy : Y.length = T) (le : hval Y ≤ hval X) :
    ∃ ss, ss.length = T ∧ Ld ss ∧ hval ss = hval X - hval Y ∧ (0 < T → Hrow wr g ss zs) := by
  obtain ⟨ss, hl, ld, hv_, r⟩ := h.ss
  rw [List.take_of_length_le (by omega), List.take_of_length_le (by omega)] at hv_
  have e : ss ++ X.drop T = ss := by rw [List.drop_of_length_le (by omega), List.append_nil]
  rw [e, hx] at r
  refine ⟨ss, hl, ld, ?_, r⟩
  have l := hval_lt ld
  rw [hl] at l
  have hk := h.k1
  have : k = 0 ∨ k = 1 := by omega
  rcases this with rfl | rfl
  · omega
  · rw [Nat.mul_one] at hv_; omega
end
theorem u64_dif (x y k : Nat) (hx : x < 65536) (hy : y < 65536) (hk : k ≤ 1) : Value.int IntKind.u64 ((65536 + (x : Int) - (y : Int) - (k : Int)) % 65536) = hv ((65536 + x - y - k) % 65536) := congrArg (Value.int .u64) (by omega)
theorem sub_over (x y k : Nat) (hx : x < 65536) (hy : y < 65536) (hk : k ≤ 1) : 1 - (65536 + (x : Int) - (y : Int) - (k : Int)) / 65536 = ((1 - (65536 + x - y - k) / 65536 : Nat) : Int) := by omega

set_option maxHeartbeats 4000000 in
set_option maxRecDepth 100000 in
theorem refSub_any {A A' : Option Addr} {n c n' c' : Nat} {xs ys : List Nat} {w : World} (ha : Lim w A n c xs) (hb : Lim w A' n' c' ys) (hn : n ≤ 100000) (hn' : n' ≤ n) (hle : val ys ≤ val xs) :
    Calls Try.prog 59 #[.slice A n c, .slice A' n' c'] w fun e w' => RetN (val xs - val ys) w e w' := by
  obtain ⟨T, hT⟩ : ∃ T, 2 * n = T := ⟨_, rfl⟩
  have eT : 2 * (n : Int) = (T : Int) := by omega
  have ET := Lib.hid eT
  clear eT
  have KA := Lib.hid (half_any (n := T) ha (by omega))
  have KB := Lib.hid (fun (W : World) (hW : Below w.heap.size w W) => half_any (n := T) (hb.next hW) (by omega))
  have VA : Hid (hval (halves xs T) = val xs) := by unfold Hid; rw [← hT]; exact halves_whole (by rw [ha.len]; omega)
  have VB : Hid (hval (halves ys T) = val ys) := by unfold Hid; rw [← hT]; exact halves_whole (by rw [hb.len]; omega)
  have LT := Lib.hid hle
  have LX := Lib.hid (ld_halves ha.lo T); have LY := Lib.hid (ld_halves hb.lo T)
  have NX := Lib.hid (halves_len xs T); have NY := Lib.hid (halves_len ys T)
  have HT := Lib.hid hT
  have hT2 : T ≤ 1000000 := by omega
  clear ha hb hT hle
  go_enter Try.func59, Try.ntmps59
  go_wp2_with fail
  rw [ET.out]
  refine KA.out.mono ?_
  rintro e w1 ⟨v1, rfl, O1, B1⟩
  obtain ⟨A1, c1, g1, z1, rfl, gb1, _, R1⟩ := own_any O1
  clear O1
  go_wp2_with fail
  refine (KB.out w1 B1).mono ?_
  rintro e w2 ⟨v2, rfl, O2, B2⟩
  obtain ⟨A2, c2, g2, z2, rfl, gb2, _, R2⟩ := own_any O2
  have B12 := below_step B1 B2
  have R1 := Lib.hid R1; have R2 := Lib.hid R2
  have BB2 := Lib.hid B2; have BB12 := Lib.hid B12
  have GB1 := Lib.hid gb1; have GB2 := Lib.hid gb2
  generalize halves xs T = X at *
  generalize halves ys T = Y at *
  have S0 : Hsb w2 g1 X Y z1 0 0 w2 := ⟨⟨[], rfl, .nil, by simp [hval_nil], fun q => by
    have := (R1.out (by have := NX.out; omega)).2.2.next B2
    simpa using this⟩, by omega, Turn.refl _ _⟩
  clear O2 B1 B2 B12 gb1 gb2 KA KB
  go_wp2_with fail
  go_loopg [8, 9] T (fun q s8 s9 wr => ∃ i k : Nat, i + q = T ∧ s9 = .int .i64 (i : Int) ∧ s8 = .int .u64 (k : Int) ∧ Hsb w2 g1 X Y z1 i k wr)
  case atStart => exact ⟨0, 0, by omega, rfl, rfl, S0⟩
  case round =>
    clear S0
    obtain ⟨i, k, hq, rfl, rfl, S⟩ := hrel
    have HQ := Lib.hid hq
    by_cases lt : i < T
    · have il : (i : Int) < T := by omega
      have il0 : (0 : Int) ≤ i := by omega
      obtain ⟨rfl, l1, r1⟩ := R1.out (by omega)
      obtain ⟨rfl, l2, r2⟩ := R2.out (by omega)
      have ix : i < X.length := by rw [NX.out]; exact lt
      have iy : i < Y.length := by rw [NY.out]; exact lt
      obtain ⟨c3, f3⟩ := S.cell ix
      have c4 : wr.cell? ⟨g2, i, none⟩ = some (.int .u64 (Y[i] : Int)) := (r2.turn S.t (by have := GB2.out; omega)).cell i iy
      have bx := LX.out.at_ i ix
      have bY := LY.out.at_ i iy
      have hk := S.k1
      have ST := Lib.hid (S.drew.step ix iy LX.out LY.out)
      generalize X[i] = x at *
      generalize Y[i] = y at *
      clear S hq r1 r2 l1 l2
      go_wp2_with fail
      go_region
      all_goals go_wp2_with fail
      all_goals go_roundg (gk - 1)
      case measure => have := HQ.out; omega
      case rel =>
        go_light
        refine ⟨i + 1, _, by have := HQ.out; omega, by go_num, congrArg (Value.int .u64) (sub_over x y k bx bY hk), ?_⟩
        rw [u64_dif x y k bx bY hk]
        exact ST.out
    · obtain rfl : T = i := by omega
      have il : ¬ (T : Int) < T := by omega
      obtain ⟨ss, sl, sd, sv, R⟩ := S.done NX.out NY.out (by rw [VA.out, VB.out]; exact LT.out)
      have T12 := BB12.out.trans (S.t.below GB1.out)
      have HS := hl_of (fun q => (R1.out q).1) R sl
      have KW := Lib.hid (whole_at (c := c1) HT.out HS sd (by omega))
      rw [sv, VA.out, VB.out] at KW
      clear S hq lt ss sl sd sv R HS
      go_wp2_with fail
      refine KW.out.mono ?_
      rintro e w3 ⟨A3, n3, c3, rfl, L3, B3⟩
      go_wp2_with fail
      go_ret
      exact ⟨_, _, _, rfl, L3, below_step T12 B3⟩
end Go.Proofs.Ytacobmnghdibaaa
namespace Go.Proofs.Ytacobmnghdibaaa
open Go.RowKit
set_option linter.unusedVariables false
set_option linter.unusedSimpArgs false

theorem bl_step_one (a p : Nat) (h : a / 2 ^ p % 2 = 1) : bl (a % 2 ^ (p + 1)) = p + 1 := by
  have e := Nat.mod_pow_succ (b := 2) (k := p) (x := a)
  rw [h, Nat.mul_one] at e
  refine bl_of ?_ (Nat.mod_lt _ (Nat.two_pow_pos _))
  rw [e]; omega
theorem bl_step_zero (a p : Nat) (h : a / 2 ^ p % 2 = 0) : bl (a % 2 ^ (p + 1)) = bl (a % 2 ^ p) := by
  have e := Nat.mod_pow_succ (b := 2) (k := p) (x := a)
  rw [h, Nat.mul_zero] at e
  rw [e, Nat.add_zero]
theorem two_32 (i : Nat) : 2 ^ (32 * i) = B ^ i := by rw [Nat.pow_mul, B_eq]
theorem bit_limb {xs : List Nat} (lo : Lo xs) (i k : Nat) (hi : i < xs.length) (hk : k < 32) : val xs / 2 ^ (32 * i + k) % 2 = xs[i] / 2 ^ k % 2 := by
  have e := val_split xs i (by omega)
  rw [val_drop xs i hi] at e
  have l := val_lt (lo.take i)
  rw [List.length_take, Nat.min_eq_left (by omega)] at l
  have p : 0 < B ^ i := Nat.pow_pos B_pos
  have e1 : val xs / 2 ^ (32 * i) = xs[i] + B * val (xs.drop (i + 1)) := by
    rw [two_32, e, Nat.add_mul_div_left _ _ p, Nat.div_eq_of_lt l, Nat.zero_add]
  rw [Nat.pow_add, ← Nat.div_div_eq_div_mul, e1, B_eq, ← pow32 (s := k) (by omega), Nat.mul_assoc, Nat.add_mul_div_left _ _ (Nat.two_pow_pos k)]
  obtain ⟨d, hd⟩ : ∃ d, 32 - k = d + 1 := ⟨32 - k - 1, by omega⟩
  rw [hd, Nat.pow_succ, Nat.mul_comm (2 ^ d) 2, Nat.mul_assoc, Nat.add_mul_mod_self_left]
theorem bits_cast (x k : Nat) : (x : Int) / 2 ^ k = ((x / 2 ^ k : Nat) : Int) := by
  have e : (2 : Int) ^ k = ((2 ^ k : Nat) : Int) := by rw [Int.natCast_pow]; rfl
  rw [e]; rfl
theorem tmod_two (y : Nat) : (y : Int).tmod 2 = ((y % 2 : Nat) : Int) := (Int.ofNat_tmod y 2).symm
theorem mod_all (a : Nat) {n : Nat} (h : a < 2 ^ n) : a % 2 ^ n = a := Nat.mod_eq_of_lt h

end Go.Proofs.Ytacobmnghdibaaa
namespace Go.Proofs.Ytacobmnghdibaaa
open Go.RowKit
set_option linter.unusedVariables false
set_option linter.unusedSimpArgs false

theorem two_ln {r k : Nat} (h : ln r ≤ 64) (hk : k ≤ 1) : ln (2 * r + k) ≤ 65 := by
  refine ln_le ?_
  have a := lt_ln r
  have b := Nat.pow_le_pow_right B_pos h
  rw [show (65 : Nat) = 64 + 1 from rfl, Nat.pow_succ]
  have : B ^ 64 * 2 ≤ B ^ 64 * B := Nat.mul_le_mul_left _ (by rw [B_eq]; decide)
  omega
theorem sgn_nonneg {a b : Nat} (h : b ≤ a) : 0 ≤ sgn a b := by
  rcases Nat.lt_or_eq_of_le h with k | k
  · rw [sgn_gt k]; omega
  · rw [k, sgn_eq]; omega
/-- What is in the loop of Div. -/
structure Dvs (w : World) (a b g : Nat) (vq vr : Value) (wr : World) : Prop where
  q : ∃ A n c, vq = .slice A n c ∧ n ≤ 64 ∧ Lim wr A n c (limbs (a / 2 ^ g / b))
  r : ∃ A n c, vr = .slice A n c ∧ n ≤ 64 ∧ Lim wr A n c (limbs (a / 2 ^ g % b))
  bl : Below w.heap.size w wr
theorem quo32 (k : Nat) : (k : Int).tdiv 32 = ((k / 32 : Nat) : Int) := (Int.ofNat_tdiv k 32).symm
theorem rem32 (k : Nat) : (k : Int).tmod 32 = ((k % 32 : Nat) : Int) := (Int.ofNat_tmod k 32).symm

end Go.Proofs.Ytacobmnghdibaaa
