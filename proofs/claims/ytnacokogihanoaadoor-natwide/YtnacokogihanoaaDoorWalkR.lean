/- The walks of timesAnd, Read. -/
import Derived.Test.YtnacokogihanoaaDoorWalkQ
namespace Go.Proofs.YtnacokogihanoaaDoor
open Go.RowKit
set_option linter.unusedVariables false
set_option linter.unusedSimpArgs false

theorem only_setCell {a w : World} {g : Nat} (h : a.grownBy w (some g)) (i : Nat) (u : Value) : a.grownBy (w.setCell ⟨g, i, none⟩ u) (some g) :=
  ⟨h.os, h.tape, h.output, by simpa [World.setCell] using h.size, fun i hi hne => (Below.heap_setCell w _ u i (by
    rintro rfl
    exact hne rfl)).trans (h.block i hi hne)⟩
/-- What is in the loop of timesAnd. -/
structure Tma (w : World) (base : Nat) (A : Option Addr) (n c : Nat) (xs : List Nat) (f z i k : Nat) (wr : World) : Prop where
  ss : ∃ ss, ss.length = i ∧ Lo ss ∧ val ss + B ^ i * k = val (xs.take i) * f + z ∧ wr.ownsRow base 37 1 (.slice A n c) n ((ss ++ xs.drop i).map lv)
  kb : k < 4294967296
  gr : w.grownBy wr (Value.slice A n c).ownBlock
theorem tma_step {P V X S f x k z T : Nat} (h : V + P * k = X * f + z) (ht : T = x * f + k) : V + P * (T % 4294967296) + P * 4294967296 * (T / 4294967296) = (X + P * x) * f + z := by
  have e2 : T = T % 4294967296 + 4294967296 * (T / 4294967296) := by omega
  have e3 : P * T = P * (T % 4294967296) + P * 4294967296 * (T / 4294967296) := by
    conv => lhs; rw [e2, Nat.mul_add, ← Nat.mul_assoc]
  have e4 : P * T = P * (x * f) + P * k := by rw [ht, Nat.mul_add]
  rw [Nat.add_mul, Nat.mul_assoc P x f]
  omega
theorem Tma.step {w : World} {base g n c : Nat} {xs : List Nat} {f z i k : Nat} {wr : World} (h : Tma w base (some ⟨g, 0, none⟩) n c xs f z i k wr) (hf : f < 4294967296) (hi : i < xs.length) (hn : xs.length = n) (lx : Lo xs) :
    wr.cell? ⟨g, i, none⟩ = some (lv xs[i]) ∧ wr.frozen? ⟨g, i, none⟩ = false ∧
      Tma w base (some ⟨g, 0, none⟩) n c xs f z (i + 1) ((xs[i] * f + k) / 4294967296) (wr.setCell ⟨g, i, none⟩ (lv ((xs[i] * f + k) % 4294967296))) := by
  obtain ⟨ss, hl, lo, hv, own⟩ := h.ss
  have hk := h.kb
  have hx := lx.at_ i hi
  have hxf : xs[i] * f ≤ 4294967295 * 4294967295 := Nat.mul_le_mul (by omega) (by omega)
  have ed : xs.drop i = xs[i] :: xs.drop (i + 1) := List.drop_eq_getElem_cons hi
  refine ⟨?_, own.frozenAt i, ⟨ss ++ [(xs[i] * f + k) % 4294967296], by simp [hl], lo.append (.cons (Nat.mod_lt _ (by decide)) .nil), ?_, ?_⟩, ?_, ?_⟩
  · rw [own.cellAt i (by omega), List.getElem?_map, List.getElem?_append_right (by omega), hl, Nat.sub_self, ed]
    rfl
  · rw [val_snoc, hl, val_take_succ xs i hi, Nat.pow_succ, show B ^ i * B = B ^ i * 4294967296 by rw [B_eq]]
    exact tma_step (S := 0) hv rfl
  · have := (own.stored i (lv ((xs[i] * f + k) % 4294967296))).1
    rw [← List.map_set, ed, List.set_append_right _ _ (by omega), hl, Nat.sub_self, List.set_cons_zero] at this
    rw [List.append_assoc]
    exact this
  · generalize xs[i] * f = q at *
    omega
  · exact only_setCell h.gr i _
/-- A natural of the call's own. -/
def RetM (w : World) (base : Nat) (v : Value) (r : Nat) (e : Ending) (w' : World) : Prop := ∃ v', e = .returned v' ∧ w'.ownsRow base 37 1 v' (ln r) ((limbs r).map lv) ∧ w.grownBy w' v.ownBlock
theorem limbs_of {ys : List Nat} (lo : Lo ys) (h : ys = [] ∨ B ^ (ys.length - 1) ≤ val ys) : ys = limbs (val ys) := by
  refine (limbs_val lo (fun hn => ?_)).symm
  rcases h with h | h
  · exact absurd h hn
  · have hl : 0 < ys.length := List.length_pos_iff.2 hn
    rw [List.getLast_eq_getElem]
    exact top_ne (m := ys.length - 1) (by omega) lo h
theorem cast_div3 (y k : Nat) : ((y : Int) * 1000000000 + (k : Int)) / 4294967296 = (((y * 1000000000 + k) / 4294967296 : Nat) : Int) := by omega
theorem cast_mod3 (y k : Nat) : ((y : Int) * 1000000000 + (k : Int)) % 4294967296 = (((y * 1000000000 + k) % 4294967296 : Nat) : Int) := by omega

set_option maxHeartbeats 2000000 in
set_option maxRecDepth 100000 in
theorem timesAnd_any {A : Option Addr} {n c base x z : Nat} {w : World} (h : w.ownsRow base 37 1 (.slice A n c) n ((limbs x).map lv)) (hA : 0 < n → ∃ g, A = some ⟨g, 0, none⟩) (hb : base ≤ w.heap.size) (hn : n ≤ 1000) (hz : z < 4294967296) :
    Calls Tryd.prog 58 #[.slice A n c, lv 1000000000, lv z] w fun e w' => RetM w base (.slice A n c) (x * 1000000000 + z) e w' := by
  have hl : (limbs x).length = n := by have := h.1; simpa using this
  have S0 : Tma w base A n c (limbs x) 1000000000 z 0 z w := ⟨⟨[], rfl, .nil, by rw [List.take_zero, val_nil, Nat.zero_mul, Nat.zero_add, Nat.zero_add, Nat.pow_zero, Nat.one_mul], by simpa using h⟩, hz, World.grownBy.refl w _⟩
  have HL := Lib.hid hl
  have HA := Lib.hid hA
  obtain ⟨i0, hi, hz0, hz1, hz2⟩ := info_parts info_u32
  have HI := Lib.hid hi; have HZ0 := Lib.hid hz0; have HZ1 := Lib.hid hz1; have HZ2 := Lib.hid hz2
  clear h hl hA hi hz0 hz1 hz2
  go_enter Tryd.func58, Tryd.ntmps58
  go_wp2_with fail
  go_loopg [7, 15] n (fun q s7 s15 wr => ∃ i k : Nat, i + q = n ∧ s15 = .int .i64 (i : Int) ∧ s7 = .int .u64 (k : Int) ∧ Tma w base A n c (limbs x) 1000000000 z i k wr)
  case atStart => exact ⟨0, z, by omega, rfl, rfl, S0⟩
  case round =>
    clear S0
    obtain ⟨i, k, hq, rfl, rfl, S⟩ := hrel
    have HQ := Lib.hid hq
    have bk := S.kb
    by_cases lt : i < n
    · have il : (i : Int) < n := by omega
      have il0 : (0 : Int) ≤ i := by omega
      obtain ⟨g, rfl⟩ := HA.out (by omega)
      have ix : i < (limbs x).length := by rw [HL.out]; omega
      obtain ⟨c1, f1, ST⟩ := S.step (by decide) ix HL.out (lo_limbs x)
      have ST := Lib.hid ST
      have hx := (lo_limbs x).at_ i ix
      generalize (limbs x)[i] = y at *
      clear S hq
      go_wp2_with fail
      go_roundg (gk - 1)
      case measure => have := HQ.out; omega
      case rel =>
        go_light
        rw [cast_div3, cast_mod3]
        exact ⟨i + 1, _, by have := HQ.out; omega, by go_num, rfl, ST.out⟩
    · obtain rfl : n = i := by omega
      have il : ¬ (n : Int) < n := by omega
      obtain ⟨ss, sl, slo, sv, own⟩ := S.ss
      rw [List.take_of_length_le (by rw [HL.out]; exact Nat.le_refl _), val_limbs] at sv
      rw [List.drop_of_length_le (by rw [HL.out]; exact Nat.le_refl _), List.append_nil] at own
      have GR := S.gr
      by_cases k0 : k = 0
      · subst k0
        rw [Nat.mul_zero, Nat.add_zero] at sv
        have el : ss = limbs (val ss) := by
          refine limbs_of slo ?_
          rcases Nat.eq_zero_or_pos n with q | q
          · exact Or.inl (List.eq_nil_of_length_eq_zero (by omega))
          · right
            have x0 : x ≠ 0 := by
              intro e
              have := HL.out
              rw [e, limbs_zero] at this
              simp at this
              omega
            have := le_of_ln x0
            rw [← limbs_length, HL.out, ← sl] at this
            rw [sv]
            omega
        have OWN : Hid (wr.ownsRow base 37 1 (.slice A n c) (ln (x * 1000000000 + z)) ((limbs (x * 1000000000 + z)).map lv)) := by
          unfold Hid
          rw [← sv, ← el]
          have : ln (val ss) = n := by rw [← limbs_length, ← el, sl]
          rw [this]
          exact own
        clear S hq HQ own el sv sl
        go_wp2_with fail
        go_ret
        exact ⟨_, rfl, OWN.out, GR⟩
      · have h1 : ((k : Int) != 0) = true := by simp; omega
        have el : ss ++ [k] = limbs (val (ss ++ [k])) := by
          refine limbs_of (slo.append (.cons bk .nil)) (Or.inr ?_)
          rw [List.length_append, List.length_singleton, Nat.add_sub_cancel, val_snoc]
          have : B ^ ss.length * 1 ≤ B ^ ss.length * k := Nat.mul_le_mul_left _ (by omega)
          omega
        have ev : val (ss ++ [k]) = x * 1000000000 + z := by rw [val_snoc, sl, sv]
        rw [ev] at el
        have OWN := Lib.hid own
        have EL := Lib.hid el
        have EN : Hid (ln (x * 1000000000 + z) = n + 1) := by unfold Hid; rw [← limbs_length, ← el]; simp [sl]
        have hb2 : base ≤ wr.heap.size := Nat.le_trans hb GR.size
        clear S hq HQ own el sv ev sl
        go_wp2_with (at_builtin; refine wpList_append_own_at _ rfl _ _ 23 rfl base 37 i0 (.int .u32 0) 1 4 Tryd.underlying23 HI.out HZ0.out HZ1.out HZ2.out rfl (by decide) (.slice A n c) n (ss.map lv) rfl (OWN.out.alloc _) ⟨wr.heap.size, 0, none⟩ 1 1 [lv k] rfl rfl ?qc2 ?qc3 ?qc4 ?qc5 ?qc6 ?_)
        case qc3 => rfl
        case qc4 => unfold maxLen; omega
        case qc5 => omega
        case qc6 => omega
        intro v2 w2 hown hg _ hl
        have OWN2 : Hid (w2.ownsRow base 37 1 v2 (ln (x * 1000000000 + z)) ((limbs (x * 1000000000 + z)).map lv)) := by
          unfold Hid
          rw [EN.out, ← EL.out, List.map_append]
          exact hown
        have GR2 : w.grownBy w2 (Value.slice A n c).ownBlock := ⟨hg.os.trans GR.os, hg.tape.trans GR.tape, hg.output.trans GR.output, Nat.le_trans GR.size (Nat.le_trans (by simp) hg.size), fun i hi hne => by
          rw [hg.block i (by simp; have := GR.size; omega) hne, Below.heap_alloc _ _ i (by have := GR.size; omega), GR.block i hi hne]⟩
        clear hown hg hl
        go_wp2_with fail
        go_ret
        exact ⟨_, rfl, OWN2.out, GR2⟩
end Go.Proofs.YtnacokogihanoaaDoor
