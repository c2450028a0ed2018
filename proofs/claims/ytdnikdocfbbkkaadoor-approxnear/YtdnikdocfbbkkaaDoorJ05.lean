/- The walks of isText, small. The walks of timesAnd, Read. The walk of Read. The walks of Same and awake. The walk of awake: the fixed answer of the stage. Plain arithmetic for the laws: how long sums and products are. -/
import Derived.Test.YtdnikdocfbbkkaaDoorJ04
namespace Go.Proofs.YtdnikdocfbbkkaaDoor
open Go.RowKit
set_option linter.unusedVariables false
set_option linter.unusedSimpArgs false

/-- A string's bytes. -/
abbrev L (s : ByteArray) : List UInt8 := s.data.toList
theorem L_len (s : ByteArray) : (L s).length = s.size := by simp [L]
theorem L_at (s : ByteArray) (k : Nat) (h : k < s.size) : (L s)[k]'(by rw [L_len]; exact h) = s[k] := rfl
theorem L_of (l : List UInt8) : L ⟨l.toArray⟩ = l := rfl
theorem of_L (s : ByteArray) : (⟨(L s).toArray⟩ : ByteArray) = s := rfl
theorem L_take (s : ByteArray) (k : Nat) (h : k ≤ s.size) : L (s.extract 0 k) = (L s).take k := by
  simp [L, ByteArray.data_extract]
theorem L_drop (s : ByteArray) (k : Nat) (h : k ≤ s.size) : L (s.extract k s.size) = (L s).drop k := by
  have e : s.data.size = s.size := rfl
  simp only [L, ByteArray.data_extract, Array.toList_extract, List.extract_eq_take_drop]
  rw [List.take_of_length_le]
  simp [e]
theorem empty_no {s : ByteArray} (h : 0 < s.size) : s.toList.isEmpty = false ∧ ¬ s.toList = [] := by
  have : s.toList = L s := ByteArray.toList_eq s
  rw [this]
  have hl := L_len s
  constructor
  · cases e : L s with
    | nil => rw [e] at hl; simp at hl; omega
    | cons a b => rfl
  · intro e
    rw [e] at hl
    simp at hl
    omega

/-- Whether it is a text. -/
def RetI (l : List UInt8) (w : World) (e : Ending) (w' : World) : Prop := ∃ b : Bool, e = .returned (.bool b) ∧ (b = true ↔ isT l) ∧ w = w'
theorem not_isD {c : UInt8} (h : (c.toNat : Int) < 48 ∨ 57 < (c.toNat : Int)) : ¬ isD c := by unfold isD; omega
theorem byte48 {c : UInt8} (h : (c.toNat : Int) = 48) : c = 48 := by
  apply UInt8.toNat_inj.1
  have : (48 : UInt8).toNat = 48 := rfl
  omega
theorem L_head (s : ByteArray) (h : 0 < s.size) : (L s).head? = some s[0] := by
  rw [List.head?_eq_getElem?, List.getElem?_eq_getElem (by rw [L_len]; exact h)]
  rfl
set_option maxHeartbeats 2000000 in
set_option maxRecDepth 100000 in
theorem isText_any (s : ByteArray) (hs : s.size ≤ 9223372036854775807) (w : World) : Calls Tryd.prog 68 #[.string s] w fun e w' => RetI (L s) w e w' := by
  by_cases h0 : 0 < s.size
  · obtain ⟨he, hne⟩ := empty_no h0
    have NE : Hid (L s ≠ []) := by
      intro e
      have := L_len s
      rw [e] at this
      simp at this
      omega
    have HH := Lib.hid (L_head s h0)
    by_cases hx : (s[0].toNat : Int) = 48
    · by_cases h1 : 1 < s.size
      · have N1 : Hid (¬ isT (L s)) := fun t => t.2.1 ⟨by rw [HH.out, byte48 hx], by rw [L_len]; exact h1⟩
        have i1 : (1 : Int) < s.size := by omega
        go_enter Tryd.func68, Tryd.ntmps68
        go_wp2_with fail
        go_ret
        exact ⟨false, rfl, ⟨(fun h => by cases h), fun h => absurd h N1.out⟩, rfl⟩
      · have N1 : Hid (¬ ((L s).head? = some 48 ∧ 1 < (L s).length)) := fun t => by
          have := t.2
          rw [L_len] at this
          omega
        have i1 : ¬ (1 : Int) < s.size := by omega
        clear h1
        go_enter Tryd.func68, Tryd.ntmps68
        go_wp2_with fail
        go_loopg [18] s.size (fun q s18 wr => ∃ k : Nat, k + q = s.size ∧ s18 = .int .i64 (k : Int) ∧ Hid (∀ c ∈ (L s).take k, isD c) ∧ w = wr)
        case atStart => exact ⟨0, by omega, rfl, (by intro c hc; simp at hc), rfl⟩
        case round =>
          obtain ⟨k, hq, rfl, hd, rfl⟩ := hrel
          have HQ := Lib.hid hq
          by_cases lt : k < s.size
          · have il : (k : Int) < s.size := by omega
            have il0 : (0 : Int) ≤ k := by omega
            have et : (L s).take (k + 1) = (L s).take k ++ [s[k]] := List.take_succ_eq_append_getElem (by rw [L_len]; exact lt)
            have hm : s[k] ∈ L s := List.getElem_mem (by rw [L_len]; exact lt)
            by_cases c1 : (s[k].toNat : Int) < 48
            · have NT : Hid (¬ isT (L s)) := fun t => not_isD (Or.inl c1) (t.2.2 _ hm)
              clear hq et hm
              go_wp2_with fail
              go_ret
              exact ⟨false, rfl, ⟨(fun h => by cases h), fun h => absurd h NT.out⟩, rfl⟩
            · by_cases c2 : 57 < (s[k].toNat : Int)
              · have NT : Hid (¬ isT (L s)) := fun t => not_isD (Or.inr c2) (t.2.2 _ hm)
                clear hq et hm
                go_wp2_with fail
                go_ret
                exact ⟨false, rfl, ⟨(fun h => by cases h), fun h => absurd h NT.out⟩, rfl⟩
              · have HD : Hid (∀ c ∈ (L s).take (k + 1), isD c) := by
                  intro c hc
                  rw [et, List.mem_append] at hc
                  rcases hc with hc | hc
                  · exact hd.out c hc
                  · rw [List.mem_singleton] at hc
                    rw [hc]
                    unfold isD
                    omega
                clear hq et hm hd
                go_wp2_with fail
                go_roundg (gk - 1)
                case measure => have := HQ.out; omega
                case rel => exact ⟨k + 1, by have := HQ.out; omega, by go_num, HD, rfl⟩
          · obtain rfl : s.size = k := by omega
            have il : ¬ (s.size : Int) < s.size := by omega
            have YT : Hid (isT (L s)) := by
              refine ⟨NE.out, N1.out, ?_⟩
              have := hd.out
              rwa [List.take_of_length_le (by rw [L_len]; exact Nat.le_refl _)] at this
            clear hq hd
            go_wp2_with fail
            go_ret
            exact ⟨true, rfl, ⟨fun _ => YT.out, fun _ => rfl⟩, rfl⟩
    · have N1 : Hid (¬ ((L s).head? = some 48 ∧ 1 < (L s).length)) := fun t => by
        have := t.1
        rw [HH.out] at this
        injection this with this
        rw [this] at hx
        exact hx rfl
      have hx2 : ((s[0].toNat : Int) == 48) = false := by simpa using hx
      clear hx
      go_enter Tryd.func68, Tryd.ntmps68
      go_wp2_with fail
      go_loopg [18] s.size (fun q s18 wr => ∃ k : Nat, k + q = s.size ∧ s18 = .int .i64 (k : Int) ∧ Hid (∀ c ∈ (L s).take k, isD c) ∧ w = wr)
      case atStart => exact ⟨0, by omega, rfl, (by intro c hc; simp at hc), rfl⟩
      case round =>
        obtain ⟨k, hq, rfl, hd, rfl⟩ := hrel
        have HQ := Lib.hid hq
        by_cases lt : k < s.size
        · have il : (k : Int) < s.size := by omega
          have il0 : (0 : Int) ≤ k := by omega
          have et : (L s).take (k + 1) = (L s).take k ++ [s[k]] := List.take_succ_eq_append_getElem (by rw [L_len]; exact lt)
          have hm : s[k] ∈ L s := List.getElem_mem (by rw [L_len]; exact lt)
          by_cases c1 : (s[k].toNat : Int) < 48
          · have NT : Hid (¬ isT (L s)) := fun t => not_isD (Or.inl c1) (t.2.2 _ hm)
            clear hq et hm
            go_wp2_with fail
            go_ret
            exact ⟨false, rfl, ⟨(fun h => by cases h), fun h => absurd h NT.out⟩, rfl⟩
          · by_cases c2 : 57 < (s[k].toNat : Int)
            · have NT : Hid (¬ isT (L s)) := fun t => not_isD (Or.inr c2) (t.2.2 _ hm)
              clear hq et hm
              go_wp2_with fail
              go_ret
              exact ⟨false, rfl, ⟨(fun h => by cases h), fun h => absurd h NT.out⟩, rfl⟩
            · have HD : Hid (∀ c ∈ (L s).take (k + 1), isD c) := by
                intro c hc
                rw [et, List.mem_append] at hc
                rcases hc with hc | hc
                · exact hd.out c hc
                · rw [List.mem_singleton] at hc
                  rw [hc]
                  unfold isD
                  omega
              clear hq et hm hd
              go_wp2_with fail
              go_roundg (gk - 1)
              case measure => have := HQ.out; omega
              case rel => exact ⟨k + 1, by have := HQ.out; omega, by go_num, HD, rfl⟩
        · obtain rfl : s.size = k := by omega
          have il : ¬ (s.size : Int) < s.size := by omega
          have YT : Hid (isT (L s)) := by
            refine ⟨NE.out, N1.out, ?_⟩
            have := hd.out
            rwa [List.take_of_length_le (by rw [L_len]; exact Nat.le_refl _)] at this
          clear hq hd
          go_wp2_with fail
          go_ret
          exact ⟨true, rfl, ⟨fun _ => YT.out, fun _ => rfl⟩, rfl⟩
  · have e : L s = [] := List.eq_nil_of_length_eq_zero (by rw [L_len]; omega)
    have e2 : s = ⟨#[]⟩ := by rw [← of_L s, e]
    have NT : Hid (¬ isT (L s)) := fun t => t.1 e
    subst e2
    clear e h0
    go_enter Tryd.func68, Tryd.ntmps68
    go_wp2_with fail
    go_ret
    exact ⟨false, rfl, ⟨(fun h => by cases h), fun h => absurd h NT.out⟩, rfl⟩

theorem rd_take_lt {l : List UInt8} (h : ∀ c ∈ l, isD c) (k : Nat) : rd (l.take k) < 10 ^ (l.take k).length := rd_lt _ (fun c hc => h c (List.mem_of_mem_take hc))
set_option maxHeartbeats 1000000 in
set_option maxRecDepth 100000 in
theorem small_any (s : ByteArray) (hs : s.size ≤ 9) (hd : ∀ c ∈ L s, isD c) (w : World) : Calls Tryd.prog 70 #[.string s] w fun e w' => e = .returned (lv (rd (L s))) ∧ w = w' := by
  have HD := Lib.hid hd
  clear hd
  go_enter Tryd.func70, Tryd.ntmps70
  go_wp2_with fail
  go_loopg [3, 7] s.size (fun q s3 s7 wr => ∃ k : Nat, k + q = s.size ∧ s7 = .int .i64 (k : Int) ∧ s3 = lv (rd ((L s).take k)) ∧ w = wr)
  case atStart => exact ⟨0, by omega, rfl, rfl, rfl⟩
  case round =>
    obtain ⟨k, hq, rfl, rfl, rfl⟩ := hrel
    have HQ := Lib.hid hq
    by_cases lt : k < s.size
    · have il : (k : Int) < s.size := by omega
      have il0 : (0 : Int) ≤ k := by omega
      have et : (L s).take (k + 1) = (L s).take k ++ [s[k]] := List.take_succ_eq_append_getElem (by rw [L_len]; exact lt)
      have hm := HD.out s[k] (List.getElem_mem (by rw [L_len]; exact lt))
      unfold isD at hm
      obtain ⟨m1, m2⟩ := hm
      have E : Hid (rd ((L s).take (k + 1)) = rd ((L s).take k) * 10 + (s[k].toNat - 48)) := by unfold Hid; rw [et, rd_snoc]
      have b := rd_take_lt HD.out k
      rw [List.length_take, L_len, Nat.min_eq_left (by omega)] at b
      have b2 : rd ((L s).take k) < 100000000 := Nat.lt_of_lt_of_le b (by have : 10 ^ k ≤ 10 ^ 8 := Nat.pow_le_pow_right (by decide) (by omega); exact this)
      generalize rd ((L s).take k) = r at *
      have c1 : (48 : Int) ≤ s[k].toNat := by omega
      have c2 : (s[k].toNat : Int) ≤ 57 := by omega
      clear hq et b
      go_wp2_with fail
      go_roundg (gk - 1)
      case measure => have := HQ.out; omega
      case rel =>
        go_light
        refine ⟨k + 1, by have := HQ.out; omega, by go_num, ?_, rfl⟩
        rw [E.out]
        exact congrArg (Value.int .u32) (by omega)
    · obtain rfl : s.size = k := by omega
      have il : ¬ (s.size : Int) < s.size := by omega
      have E : Hid ((L s).take s.size = L s) := List.take_of_length_le (by rw [L_len]; exact Nat.le_refl _)
      clear hq
      go_wp2_with fail
      go_ret
      exact ⟨by rw [E.out]; rfl, rfl⟩
end Go.Proofs.YtdnikdocfbbkkaaDoor
namespace Go.Proofs.YtdnikdocfbbkkaaDoor
open Go.RowKit
set_option linter.unusedVariables false
set_option linter.unusedSimpArgs false

theorem only_setCell {a w : World} {g : Nat} (h : a.grownBy w (some g)) (i : Nat) (u : Value) : a.grownBy (w.setCell ⟨g, i, none⟩ u) (some g) :=
  ⟨h.os, h.tape, h.output, by simpa [World.setCell] using h.size, fun i hi hne => (Below.heap_setCell w _ u i (by
    rintro rfl
    exact hne rfl)).trans (h.block i hi hne)⟩
/-- What is in the loop of timesAnd. -/
structure Tma (w : World) (base : Nat) (A : Option Addr) (n c : Nat) (xs : List Nat) (f z i k : Nat) (wr : World) : Prop where
  ss : ∃ ss, ss.length = i ∧ Lo ss ∧ val ss + B ^ i * k = val (xs.take i) * f + z ∧ wr.ownsRow base 37 1 (.slice A n c) n ((ss ++ xs.drop i).map lv)
  kb : k < 4294967296
  gr : w.grownBy wr (Value.slice A n c).ownBlock
theorem tma_step {P V X S f x k z T : Nat} (h : V + P * k = X * f + z) (ht : T = x * f + k) : V + P * (T % 4294967296) + P * 4294967296 * (T / 4294967296) = (X + P * x) * f + z := by
  have e2 : T = T % 4294967296 + 4294967296 * (T / 4294967296) := by omega
  have e3 : P * T = P * (T % 4294967296) + P * 4294967296 * (T / 4294967296) := by
    conv => lhs; rw [e2, Nat.mul_add, ← Nat.mul_assoc]
  have e4 : P * T = P * (x * f) + P * k := by rw [ht, Nat.mul_add]
  rw [Nat.add_mul, Nat.mul_assoc P x f]
  omega
theorem Tma.step {w : World} {base g n c : Nat} {xs : List Nat} {f z i k : Nat} {wr : World} (h : Tma w base (some ⟨g, 0, none⟩) n c xs f z i k wr) (hf : f < 4294967296) (hi : i < xs.length) (hn : xs.length = n) (lx : Lo xs) :
    wr.cell? ⟨g, i, none⟩ = some (lv xs[i]) ∧ wr.frozen? ⟨g, i, none⟩ = false ∧
      Tma w base (some ⟨g, 0, none⟩) n c xs f z (i + 1) ((xs[i] * f + k) / 4294967296) (wr.setCell ⟨g, i, none⟩ (lv ((xs[i] * f + k) % 4294967296))) := by
  obtain ⟨ss, hl, lo, hv, own⟩ := h.ss
  have hk := h.kb
  have hx := lx.at_ i hi
  have hxf : xs[i] * f ≤ 4294967295 * 4294967295 := Nat.mul_le_mul (by omega) (by omega)
  have ed : xs.drop i = xs[i] :: xs.drop (i + 1) := List.drop_eq_getElem_cons hi
  refine ⟨?_, own.frozenAt i, ⟨ss ++ [(xs[i] * f + k) % 4294967296], by simp [hl], lo.append (.cons (Nat.mod_lt _ (by decide)) .nil), ?_, ?_⟩, ?_, ?_⟩
  · rw [own.cellAt i (by omega), List.getElem?_map, List.getElem?_append_right (by omega), hl, Nat.sub_self, ed]
    rfl
  · rw [val_snoc, hl, val_take_succ xs i hi, Nat.pow_succ, show B ^ i * B = B ^ i * 4294967296 by rw [B_eq]]
    exact tma_step (S := 0) hv rfl
  · have := (own.stored i (lv ((xs[i] * f + k) % 4294967296))).1
    rw [← List.map_set, ed, List.set_append_right _ _ (by omega), hl, Nat.sub_self, List.set_cons_zero] at this
    rw [List.append_assoc]
    exact this
  · generalize xs[i] * f = q at *
    omega
  · exact only_setCell h.gr i _
/-- A natural of the call's own. -/
def RetM (w : World) (base : Nat) (v : Value) (r : Nat) (e : Ending) (w' : World) : Prop := ∃ v', e = .returned v' ∧ w'.ownsRow base 37 1 v' (ln r) ((limbs r).map lv) ∧ w.grownBy w' v.ownBlock
theorem limbs_of {ys : List Nat} (lo : Lo ys) (h : ys = [] ∨ B ^ (ys.length - 1) ≤ val ys) : ys = limbs (val ys) := by
  refine (limbs_val lo (fun hn => ?_)).symm
  rcases h with h | h
  · exact absurd h hn
  · have hl : 0 < ys.length := List.length_pos_iff.2 hn
    rw [List.getLast_eq_getElem]
    exact top_ne (m := ys.length - 1) (by omega) lo h
theorem cast_div3 (y k : Nat) : ((y : Int) * 1000000000 + (k : Int)) / 4294967296 = (((y * 1000000000 + k) / 4294967296 : Nat) : Int) := by omega
theorem cast_mod3 (y k : Nat) : ((y : Int) * 1000000000 + (k : Int)) % 4294967296 = (((y * 1000000000 + k) % 4294967296 : Nat) : Int) := by omega

set_option maxHeartbeats 2000000 in
set_option maxRecDepth 100000 in
theorem timesAnd_any {A : Option Addr} {n c base x z : Nat} {w : World} (h : w.ownsRow base 37 1 (.slice A n c) n ((limbs x).map lv)) (hA : 0 < n → ∃ g, A = some ⟨g, 0, none⟩) (hb : base ≤ w.heap.size) (hn : n ≤ 1000) (hz : z < 4294967296) :
    Calls Tryd.prog 69 #[.slice A n c, lv 1000000000, lv z] w fun e w' => RetM w base (.slice A n c) (x * 1000000000 + z) e w' := by
  have hl : (limbs x).length = n := by have := h.1; simpa using this
  have S0 : Tma w base A n c (limbs x) 1000000000 z 0 z w := ⟨⟨[], rfl, .nil, by rw [List.take_zero, val_nil, Nat.zero_mul, Nat.zero_add, Nat.zero_add, Nat.pow_zero, Nat.one_mul], by simpa using h⟩, hz, World.grownBy.refl w _⟩
  have HL := Lib.hid hl
  have HA := Lib.hid hA
  obtain ⟨i0, hi, hz0, hz1, hz2⟩ := info_parts info_u32
  have HI := Lib.hid hi; have HZ0 := Lib.hid hz0; have HZ1 := Lib.hid hz1; have HZ2 := Lib.hid hz2
  clear h hl hA hi hz0 hz1 hz2
  go_enter Tryd.func69, Tryd.ntmps69
  go_wp2_with fail
  go_loopg [7, 15] n (fun q s7 s15 wr => ∃ i k : Nat, i + q = n ∧ s15 = .int .i64 (i : Int) ∧ s7 = .int .u64 (k : Int) ∧ Tma w base A n c (limbs x) 1000000000 z i k wr)
  case atStart => exact ⟨0, z, by omega, rfl, rfl, S0⟩
  case round =>
    clear S0
    obtain ⟨i, k, hq, rfl, rfl, S⟩ := hrel
    have HQ := Lib.hid hq
    have bk := S.kb
    by_cases lt : i < n
    · have il : (i : Int) < n := by omega
      have il0 : (0 : Int) ≤ i := by omega
      obtain ⟨g, rfl⟩ := HA.out (by omega)
      have ix : i < (limbs x).length := by rw [HL.out]; omega
      obtain ⟨c1, f1, ST⟩ := S.step (by decide) ix HL.out (lo_limbs x)
      have ST := Lib.hid ST
      have hx := (lo_limbs x).at_ i ix
      generalize (limbs x)[i] = y at *
      clear S hq
      go_wp2_with fail
      go_roundg (gk - 1)
      case measure => have := HQ.out; omega
      case rel =>
        go_light
        rw [cast_div3, cast_mod3]
        exact ⟨i + 1, _, by have := HQ.out; omega, by go_num, rfl, ST.out⟩
    · obtain rfl : n = i := by omega
      have il : ¬ (n : Int) < n := by omega
      obtain ⟨ss, sl, slo, sv, own⟩ := S.ss
      rw [List.take_of_length_le (by rw [HL.out]; exact Nat.le_refl _), val_limbs] at sv
      rw [List.drop_of_length_le (by rw [HL.out]; exact Nat.le_refl _), List.append_nil] at own
      have GR := S.gr
      by_cases k0 : k = 0
      · subst k0
        rw [Nat.mul_zero, Nat.add_zero] at sv
        have el : ss = limbs (val ss) := by
          refine limbs_of slo ?_
          rcases Nat.eq_zero_or_pos n with q | q
          · exact Or.inl (List.eq_nil_of_length_eq_zero (by omega))
          · right
            have x0 : x ≠ 0 := by
              intro e
              have := HL.out
              rw [e, limbs_zero] at this
              simp at this
              omega
            have := le_of_ln x0
            rw [← limbs_length, HL.out, ← sl] at this
            rw [sv]
            omega
        have OWN : Hid (wr.ownsRow base 37 1 (.slice A n c) (ln (x * 1000000000 + z)) ((limbs (x * 1000000000 + z)).map lv)) := by
          unfold Hid
          rw [← sv, ← el]
          have : ln (val ss) = n := by rw [← limbs_length, ← el, sl]
          rw [this]
          exact own
        clear S hq HQ own el sv sl
        go_wp2_with fail
        go_ret
        exact ⟨_, rfl, OWN.out, GR⟩
      · have h1 : ((k : Int) != 0) = true := by simp; omega
        have el : ss ++ [k] = limbs (val (ss ++ [k])) := by
          refine limbs_of (slo.append (.cons bk .nil)) (Or.inr ?_)
          rw [List.length_append, List.length_singleton, Nat.add_sub_cancel, val_snoc]
          have : B ^ ss.length * 1 ≤ B ^ ss.length * k := Nat.mul_le_mul_left _ (by omega)
          omega
        have ev : val (ss ++ [k]) = x * 1000000000 + z := by rw [val_snoc, sl, sv]
        rw [ev] at el
        have OWN := Lib.hid own
        have EL := Lib.hid el
        have EN : Hid (ln (x * 1000000000 + z) = n + 1) := by unfold Hid; rw [← limbs_length, ← el]; simp [sl]
        have hb2 : base ≤ wr.heap.size := Nat.le_trans hb GR.size
        clear S hq HQ own el sv ev sl
        go_wp2_with (at_builtin; refine wpList_append_own_at _ rfl _ _ 23 rfl base 37 i0 (.int .u32 0) 1 4 Tryd.underlying23 HI.out HZ0.out HZ1.out HZ2.out rfl (by decide) (.slice A n c) n (ss.map lv) rfl (OWN.out.alloc _) ⟨wr.heap.size, 0, none⟩ 1 1 [lv k] rfl rfl ?qc2 ?qc3 ?qc4 ?qc5 ?qc6 ?_)
        case qc3 => rfl
        case qc4 => unfold maxLen; omega
        case qc5 => omega
        case qc6 => omega
        intro v2 w2 hown hg _ hl
        have OWN2 : Hid (w2.ownsRow base 37 1 v2 (ln (x * 1000000000 + z)) ((limbs (x * 1000000000 + z)).map lv)) := by
          unfold Hid
          rw [EN.out, ← EL.out, List.map_append]
          exact hown
        have GR2 : w.grownBy w2 (Value.slice A n c).ownBlock := ⟨hg.os.trans GR.os, hg.tape.trans GR.tape, hg.output.trans GR.output, Nat.le_trans GR.size (Nat.le_trans (by simp) hg.size), fun i hi hne => by
          rw [hg.block i (by simp; have := GR.size; omega) hne, Below.heap_alloc _ _ i (by have := GR.size; omega), GR.block i hi hne]⟩
        clear hown hg hl
        go_wp2_with fail
        go_ret
        exact ⟨_, rfl, OWN2.out, GR2⟩
end Go.Proofs.YtdnikdocfbbkkaaDoor
namespace Go.Proofs.YtdnikdocfbbkkaaDoor
open Go.RowKit
set_option linter.unusedVariables false
set_option linter.unusedSimpArgs false

theorem own_form {w : World} {base n : Nat} {v : Value} {xs : List Value} (h : w.ownsRow base 37 1 v n xs) : ∃ A c, v = .slice A n c ∧ (0 < n → ∃ g, A = some ⟨g, 0, none⟩) := by
  rcases h.2 with ⟨rfl, rfl⟩ | ⟨g, cap, cur, rfl, _⟩
  · exact ⟨none, 0, rfl, fun h => absurd h (by omega)⟩
  · exact ⟨_, cap, rfl, fun _ => ⟨g, rfl⟩⟩
/-- What is in the loop of Read. -/
structure Rdr (w : World) (s : ByteArray) (q : Nat) (s0 s4 : Value) (wr : World) : Prop where
  ex : ∃ (p : List UInt8) (t : ByteArray) (A : Option Addr) (n c : Nat), s0 = .string t ∧ t.size = q ∧ s4 = .slice A n c ∧ L s = p ++ L t ∧ (p = [] ∨ t.size % 9 = 0) ∧
    wr.ownsRow w.heap.size 37 1 (.slice A n c) n ((limbs (rd p)).map lv) ∧ (0 < n → ∃ g, A = some ⟨g, 0, none⟩) ∧ n ≤ 64
  bl : Below w.heap.size w wr

set_option maxHeartbeats 2000000 in
set_option maxRecDepth 100000 in
theorem read_yes (s : ByteArray) (hs : s.size ≤ 9223372036854775807) (h : isT (L s)) (w : World) : Calls Tryd.prog 18 #[.string s] w fun e w' => RetE (fitN (rd (L s))) (fitE (rd (L s))) w e w' := by
  have K := Lib.hid (isText_any s hs)
  have HT := Lib.hid h
  have S0 : Rdr w s s.size (.string s) (.slice none 0 0) w := ⟨⟨[], s, none, 0, 0, rfl, rfl, rfl, rfl, Or.inl rfl, by
    have : rd [] = 0 := rfl
    rw [this, limbs_zero]
    exact World.ownsRow_nil w _ _ _, fun h => absurd h (by omega), by omega⟩, Below.refl _ _⟩
  clear h
  go_enter Tryd.func18, Tryd.ntmps18
  go_wp2_with fail
  refine (K.out _).mono ?_
  rintro e w' ⟨b, rfl, hb, rfl⟩
  obtain rfl : b = true := hb.2 HT.out
  clear hb
  go_wp2_with fail
  go_loopg [0, 4] s.size (fun q s0 s4 wr => Rdr w s q s0 s4 wr)
  case atStart => exact S0
  case round =>
    clear S0 K
    obtain ⟨p, t, A, n, c, rfl, tq, rfl, es, hp, own, hA, n64⟩ := hrel.ex
    have BL := hrel.bl
    clear hrel
    subst tq
    have hl : ln (rd p) = n := by have := own.1; rw [← limbs_length]; simpa using this
    have ts : t.size ≤ 9223372036854775807 := by
      have := congrArg List.length es
      rw [List.length_append, L_len, L_len] at this
      omega
    by_cases h0 : 0 < t.size
    · obtain ⟨k, hk⟩ : ∃ k, k = (t.size - 1) % 9 + 1 := ⟨_, rfl⟩
      have ek : ((t.size : Int) - 1) % 9 + 1 = (k : Int) := by omega
      have k1 : (0 : Int) < t.size := by omega
      have k3 : (k : Int) ≤ t.size := by omega
      have k4 : (0 : Int) ≤ k := by omega
      have kb : k ≤ t.size := by omega
      have k9 : k ≤ 9 := by omega
      have kp : 0 < k := by omega
      have e1 := L_take t k kb
      have e2 := L_drop t k kb
      have z1 : (t.extract 0 k).size = k := by rw [← L_len, e1, List.length_take, L_len]; omega
      have z2 : (t.extract k t.size).size = t.size - k := by rw [← L_len, e2, List.length_drop, L_len]
      have hd : ∀ c ∈ L (t.extract 0 k), isD c := by
        intro c hc
        rw [e1] at hc
        refine HT.out.2.2 c ?_
        rw [es]
        exact List.mem_append_right _ (List.mem_of_mem_take hc)
      have KS := Lib.hid (small_any (t.extract 0 k) (by omega) hd)
      have rl := rd_lt _ hd
      rw [L_len, z1] at rl
      have rb : rd (L (t.extract 0 k)) < 1000000000 := Nat.lt_of_lt_of_le rl (by have : 10 ^ k ≤ 10 ^ 9 := Nat.pow_le_pow_right (by decide) k9; exact this)
      have er : rd (p ++ L (t.extract 0 k)) = rd p * 1000000000 + rd (L (t.extract 0 k)) := by
        rw [rd_append, L_len, z1]
        rcases hp with rfl | hp
        · have : rd [] = 0 := rfl
          rw [this, Nat.zero_mul, Nat.zero_mul]
        · have : k = 9 := by omega
          rw [this]
      have es2 : L s = (p ++ L (t.extract 0 k)) ++ L (t.extract k t.size) := by
        rw [e1, e2, List.append_assoc, List.take_append_drop, es]
      have KT := Lib.hid (fun (W : World) (hW : w.heap.size ≤ W.heap.size) (ho : W.ownsRow w.heap.size 37 1 (.slice A n c) n ((limbs (rd p)).map lv)) => timesAnd_any (z := rd (L (t.extract 0 k))) ho hA hW (by omega) (by omega))
      rw [← er] at KT
      have OWN := Lib.hid own
      have OL := Lib.hid own.lt
      have ES := Lib.hid es2
      generalize hr : rd (p ++ L (t.extract 0 k)) = r at *
      have HR := Lib.hid hr
      generalize rd (L (t.extract 0 k)) = v at *
      have hmod : (t.size - k) % 9 = 0 := by omega
      clear own es hd rl er es2 hr hk e1 e2
      go_wp2_with fail
      refine (KS.out _).mono ?_
      rintro e w1 ⟨rfl, rfl⟩
      go_wp2_with fail
      refine (KT.out _ BL.size OWN.out).mono ?_
      rintro e w2 ⟨v2, rfl, own2, GR⟩
      obtain ⟨A2, c2, rfl, hA2⟩ := own_form own2
      have BL2 : Below w.heap.size w w2 := BL.grown GR BL.size (fun k e => (OL.out k e).1)
      by_cases big : ln r ≤ 64
      · have i1 : (ln r : Int) ≤ 64 := by omega
        have i2 : (k : Int) ≤ t.size := k3
        have T2 : Hid (Rdr w s (t.size - k) (.string (t.extract k t.size)) (.slice A2 (ln r) c2) w2) := ⟨⟨p ++ L (t.extract 0 k), t.extract k t.size, A2, ln r, c2, rfl, z2, rfl, ES.out, Or.inr (by rw [z2]; exact hmod), by rw [HR.out]; exact own2, hA2, big⟩, BL2⟩
        clear own2 GR BL BL2
        go_wp2_with fail
        go_roundg (t.size - k)
        case measure => omega
        case rel =>
          go_light
          exact T2.out
      · have i1 : ¬ (ln r : Int) ≤ 64 := by omega
        have mono : r ≤ rd (L s) := by rw [← HR.out, ES.out]; exact rd_mono _ _
        have big2 : ¬ ln (rd (L s)) ≤ 64 := fun q => big (Nat.le_trans (ln_mono mono) q)
        have F1 := Lib.hid (fitN_no big2); have F2 := Lib.hid (fitE_no big2)
        clear own2 GR BL big2 mono
        go_wp2_with fail
        go_ret2
        exact ⟨_, _, _, by rw [F2.out]; rfl, by rw [F1.out]; exact lim_zero _ _ _ (by omega), BL2⟩
    · have e0 : L t = [] := List.eq_nil_of_length_eq_zero (by rw [L_len]; omega)
      rw [e0, List.append_nil] at es
      subst es
      have k1 : ¬ (0 : Int) < t.size := by omega
      have F1 := Lib.hid (fitN_yes (r := rd (L s)) (by omega)); have F2 := Lib.hid (fitE_yes (r := rd (L s)) (by omega))
      obtain ⟨A3, c3, e3, L3⟩ := own_lim own (lo_limbs _)
      injection e3 with e4 e5 e6
      subst e4 e6
      have L3 := Lib.hid L3
      clear own hp
      go_wp2_with fail
      go_ret2
      exact ⟨_, _, _, by rw [F2.out]; rfl, by rw [F1.out]; exact L3.out, BL⟩

set_option maxRecDepth 100000 in
theorem read_no (s : ByteArray) (hs : s.size ≤ 9223372036854775807) (h : ¬ isT (L s)) (w : World) : Calls Tryd.prog 18 #[.string s] w fun e w' => e = .returned (.tuple #[.slice none 0 0, .int .i64 2]) ∧ w = w' := by
  have K := Lib.hid (isText_any s hs)
  have HT := Lib.hid h
  clear h
  go_enter Tryd.func18, Tryd.ntmps18
  go_wp2_with fail
  refine (K.out _).mono ?_
  rintro e w' ⟨b, rfl, hb, rfl⟩
  obtain rfl : b = false := by
    cases b with
    | false => rfl
    | true => exact absurd (hb.1 rfl) HT.out
  clear hb
  go_wp2_with fail
  go_ret2
  exact ⟨rfl, rfl⟩
end Go.Proofs.YtdnikdocfbbkkaaDoor
namespace Go.Proofs.YtdnikdocfbbkkaaDoor
open Go.RowKit
set_option linter.unusedVariables false
set_option linter.unusedSimpArgs false

/-- Are limbs the same? -/
@[irreducible] def sameB (xs ys : List Nat) : Bool := decide (xs = ys)
theorem sameB_yes (xs : List Nat) : sameB xs xs = true := by unfold sameB; simp
theorem sameB_no {xs ys : List Nat} (h : xs ≠ ys) : sameB xs ys = false := by unfold sameB; simpa using h
theorem sameB_iff {xs ys : List Nat} : sameB xs ys = true ↔ xs = ys := by unfold sameB; simp
theorem take_differ {xs ys : List Nat} {k : Nat} (hx : k < xs.length) (hy : k < ys.length) (h : xs[k] ≠ ys[k]) : xs ≠ ys := by
  rintro rfl; exact h rfl
set_option maxHeartbeats 1000000 in
set_option maxRecDepth 100000 in
theorem same_any {A A' : Option Addr} {n c n' c' : Nat} {xs ys : List Nat} {w : World} (ha : Lim w A n c xs) (hb : Lim w A' n' c' ys) :
    Calls Tryd.prog 24 #[.slice A n c, .slice A' n' c'] w fun e w' => e = .returned (.bool (sameB xs ys)) ∧ ∃ m, w' = w.drewN m := by
  have hl := ha.len; have hl' := hb.len
  by_cases hn : n = n'
  · subst hn
    have HA := Lib.hid ha; have HB := Lib.hid hb
    have h0 : ((n : Int) != n) = false := by simp
    have ht := ha.top; have hc := ha.cap
    have HL := Lib.hid hl; have HL' := Lib.hid hl'
    clear ha hb hl hl'
    go_enter Tryd.func24, Tryd.ntmps24
    go_wp2_with fail
    go_loopg [5] n (fun q s5 wr => ∃ k m : Nat, k + q = n ∧ s5 = .int .i64 (k : Int) ∧ Hid (xs.take k = ys.take k) ∧ wr = w.drewN m)
    case atStart => exact ⟨0, 0, by omega, rfl, rfl, rfl⟩
    case round =>
      obtain ⟨k, m, hq, rfl, he, rfl⟩ := hrel
      have HQ := Lib.hid hq
      by_cases lt : k < n
      · have il : (k : Int) < n := by omega
        have il0 : (0 : Int) ≤ k := by omega
        obtain ⟨ad, rfl⟩ := HA.out.some_ (by omega)
        obtain ⟨ad', rfl⟩ := HB.out.some_ (by omega)
        have kx : k < xs.length := by rw [HL.out]; omega
        have ky : k < ys.length := by rw [HL'.out]; omega
        have c1 := HA.out.cell k kx
        have c2 := HB.out.cell k ky
        by_cases hx : xs[k] = ys[k]
        · have HE : Hid (xs.take (k + 1) = ys.take (k + 1)) := by unfold Hid; rw [take_snoc xs k kx, take_snoc ys k ky, he.out, hx]
          rw [← hx] at c2
          generalize xs[k] = x at *
          have h2 : ((x : Int) != x) = false := by simp
          clear hx hq he
          go_wp2_with fail
          go_quiet (fail)
          go_wp2_with fail
          go_roundg (gk - 1)
          case measure => have := HQ.out; omega
          case rel => exact ⟨k + 1, m + nq, by have := HQ.out; omega, by go_num, HE, rfl⟩
        · have ES := Lib.hid (sameB_no (take_differ kx ky hx))
          generalize xs[k] = x at *
          generalize ys[k] = y at *
          have h2 : ((x : Int) != y) = true := by simp; omega
          clear hx hq he
          go_wp2_with fail
          go_quiet (fail)
          go_wp2_with fail
          go_ret
          exact ⟨by rw [ES.out]; rfl, m + nq, World.drewN_drewN _ _ _⟩
      · obtain rfl : n = k := by omega
        have il : ¬ (n : Int) < n := by omega
        have e : xs = ys := by
          have := he.out
          rwa [List.take_of_length_le (by rw [HL.out]; exact Nat.le_refl _), List.take_of_length_le (by rw [HL'.out]; exact Nat.le_refl _)] at this
        subst e
        have ES := Lib.hid (sameB_yes xs)
        clear hq he
        go_wp2_with fail
        go_ret
        exact ⟨by rw [ES.out]; rfl, _, rfl⟩
  · have ES := Lib.hid (sameB_no (xs := xs) (ys := ys) (by rintro rfl; omega))
    have h0 : ((n : Int) != n') = true := by simp; omega
    clear ha hb hl hl'
    go_enter Tryd.func24, Tryd.ntmps24
    go_wp2_with fail
    go_ret
    exact ⟨by rw [ES.out]; rfl, 0, rfl⟩
/-- .. and nothing that was there has turned. -/
theorem same_bel {A A' : Option Addr} {n c n' c' : Nat} {xs ys : List Nat} {w : World} (ha : Lim w A n c xs) (hb : Lim w A' n' c' ys) :
    Calls Tryd.prog 24 #[.slice A n c, .slice A' n' c'] w fun e w' => e = .returned (.bool (sameB xs ys)) ∧ Below w.heap.size w w' :=
  (same_any ha hb).mono fun _ _ ⟨he, m, hm⟩ => ⟨he, by subst hm; exact below_drewN (Below.refl _ _) m⟩
theorem cmp_bel {A A' : Option Addr} {n c n' c' a b : Nat} {w : World} (ha : Lim w A n c (limbs a)) (hb : Lim w A' n' c' (limbs b)) (la : ln a ≤ 64) (lb : ln b ≤ 64) :
    Calls Tryd.prog 33 #[.slice A n c, .slice A' n' c'] w fun e w' => e = .returned (.int .i64 (sgn a b)) ∧ Below w.heap.size w w' :=
  (cmp_any ha hb la lb).mono fun _ _ ⟨he, m, hm⟩ => ⟨he, by subst hm; exact below_drewN (Below.refl _ _) m⟩

theorem text_a : dtext 18446744073709551616 = [49, 56, 52, 52, 54, 55, 52, 52, 48, 55, 51, 55, 48, 57, 53, 53, 49, 54, 49, 54] := by
  rw [dtext_pos (by decide)]; simp [tens_step, dig]
theorem text_q : dtext 1844674407370955161 = [49, 56, 52, 52, 54, 55, 52, 52, 48, 55, 51, 55, 48, 57, 53, 53, 49, 54, 49] := by
  rw [dtext_pos (by decide)]; simp [tens_step, dig]
theorem text_d : dtext 6 = [54] := by
  rw [dtext_pos (by decide)]; simp [tens_step, dig]
theorem limbs_a : limbs 18446744073709551616 = [0, 0, 1] := by
  have := limbs_val (xs := [0, 0, 1]) (.cons (by decide) (.cons (by decide) (.cons (by decide) .nil))) (fun _ => by simp)
  rwa [val_cons, val_cons, val_cons, val_nil, B_eq] at this
theorem ln_small {n : Nat} (h : n < 340282366920938463463374607431768211457) : ln n ≤ 5 := by
  refine ln_le ?_
  rw [B_eq]
  refine Nat.lt_trans h (by decide +kernel)
theorem bl_m : bl 340282366920938463463374607431768211456 = 129 := bl_of (k := 128) (by decide) (by decide)
end Go.Proofs.YtdnikdocfbbkkaaDoor
namespace Go.Proofs.YtdnikdocfbbkkaaDoor
open Go.RowKit
set_option linter.unusedVariables false
set_option linter.unusedSimpArgs false

/-- Slices that lie there, with their limbs. -/
def Lies : List (Option Addr × Nat × Nat × List Nat) → World → Prop
  | [], _ => True
  | (A, n, c, xs) :: r, w => Lim w A n c xs ∧ Lies r w
theorem Lies.next {w w' : World} (hb : Below w.heap.size w w') : ∀ {l : List (Option Addr × Nat × Nat × List Nat)}, Lies l w → Lies l w'
  | [], _ => trivial
  | (_, _, _, _) :: _, h => ⟨h.1.next hb, Lies.next hb h.2⟩
/-- .. and nothing that was there has turned. -/
structure Sts (w : World) (l : List (Option Addr × Nat × Nat × List Nat)) (wx : World) : Prop where
  lie : Lies l wx
  bl : Below w.heap.size w wx
theorem Sts.start (w : World) : Sts w [] w := ⟨trivial, Below.refl _ _⟩
theorem Sts.next {w : World} {l : List (Option Addr × Nat × Nat × List Nat)} {W w1 : World} (s : Sts w l W) (hb : Below W.heap.size W w1) : Sts w l w1 := ⟨s.lie.next hb, below_step s.bl hb⟩
theorem Sts.drewN {w : World} {l : List (Option Addr × Nat × Nat × List Nat)} {W : World} (s : Sts w l W) (m : Nat) : Sts w l (W.drewN m) := s.next (below_drewN (Below.refl _ _) m)
theorem Sts.drew {w : World} {l : List (Option Addr × Nat × Nat × List Nat)} {W : World} (s : Sts w l W) : Sts w l W.drew := s.next (Below.refl _ _).drew
theorem Sts.put {w : World} {l : List (Option Addr × Nat × Nat × List Nat)} {W : World} {A : Option Addr} {n c : Nat} {xs : List Nat} (s : Sts w l W) (h : Lim W A n c xs) : Sts w ((A, n, c, xs) :: l) W := ⟨⟨h, s.lie⟩, s.bl⟩

theorem eN1 : 18446744073709551616 / 10 = 1844674407370955161 := by decide
theorem eN2 : 18446744073709551616 % 10 = 6 := by decide
theorem eN3 : 18446744073709551616 * 18446744073709551616 = 340282366920938463463374607431768211456 := by decide
theorem eN4 : Nat.gcd 12 18 = 6 := by decide
theorem lN : ln 18446744073709551616 ≤ 64 := Nat.le_trans (ln_small (by decide)) (by decide)
theorem lM : ln 340282366920938463463374607431768211456 ≤ 64 := Nat.le_trans (ln_small (by decide)) (by decide)
theorem ln_tiny {n : Nat} (h : n ≤ 1844674407370955161) : ln n ≤ 64 := Nat.le_trans (ln_small (by omega)) (by decide)
theorem read_a (w : World) : Calls Tryd.prog 18 #[.string ⟨#[49, 56, 52, 52, 54, 55, 52, 52, 48, 55, 51, 55, 48, 57, 53, 53, 49, 54, 49, 54]⟩] w fun e w' => RetE 18446744073709551616 0 w e w' := by
  have e : L ⟨#[49, 56, 52, 52, 54, 55, 52, 52, 48, 55, 51, 55, 48, 57, 53, 53, 49, 54, 49, 54]⟩ = dtext 18446744073709551616 := by rw [text_a]
  have := read_yes ⟨#[49, 56, 52, 52, 54, 55, 52, 52, 48, 55, 51, 55, 48, 57, 53, 53, 49, 54, 49, 54]⟩ (by decide) (by rw [e]; exact isT_dtext _) w
  rwa [e, rd_dtext, fitN_yes lN, fitE_yes lN] at this

set_option maxHeartbeats 4000000 in
set_option maxRecDepth 100000 in
theorem awake_any (w : World) : Calls Tryd.prog 15 #[] w fun e w' => e = .returned (.bool true) ∧ Below w.heap.size w w' := by
  have KR := Lib.hid read_a
  have K10 : Hid (∀ W, Calls Tryd.prog 25 #[.int .u64 10] W fun e w' => RetN 10 W e w') := fun W => of_any 10 (by decide) W
  have K12 : Hid (∀ W, Calls Tryd.prog 25 #[.int .u64 12] W fun e w' => RetN 12 W e w') := fun W => of_any 12 (by decide) W
  have K18 : Hid (∀ W, Calls Tryd.prog 25 #[.int .u64 18] W fun e w' => RetN 18 W e w') := fun W => of_any 18 (by decide) W
  have K1 : Hid (∀ W, Calls Tryd.prog 25 #[.int .u64 1] W fun e w' => RetN 1 W e w') := fun W => of_any 1 (by decide) W
  have K6 : Hid (∀ W, Calls Tryd.prog 25 #[.int .u64 6] W fun e w' => RetN 6 W e w') := fun W => of_any 6 (by decide) W
  go_enter Tryd.func15, Tryd.ntmps15
  go_wp2_with fail
  refine (KR.out _).mono ?_
  rintro e w1 ⟨A, n, c, rfl, LA, B1⟩
  have hn := LA.len
  rw [limbs_a] at hn
  obtain rfl : n = 3 := hn.symm
  obtain ⟨ad, rfl⟩ := LA.some_ (by decide)
  have S := ((Sts.start w).next B1).put LA
  clear hn LA B1
  go_wp2_with fail
  refine (K10.out _).mono ?_
  rintro e w2 ⟨A2, n2, c2, rfl, L2, B2⟩
  have S := (S.next B2).put L2
  clear L2 B2
  go_wp2_with fail
  refine (div_any S.lie.2.1 S.lie.1 lN (ln_tiny (by decide)) (by decide)).mono ?_
  rw [eN1, eN2]
  rintro e w3 ⟨A3, n3, c3, A4, n4, c4, rfl, L3, L4, B3⟩
  have S := ((S.next B3).put L3).put L4
  clear L3 L4 B3
  go_wp2_with fail
  have KM := mul_any S.lie.2.2.2.1 S.lie.2.2.2.1 lN lN
  rw [eN3, fitN_yes lM, fitE_yes lM] at KM
  refine KM.mono ?_
  rintro e w4 ⟨A5, n5, c5, rfl, L5, B4⟩
  have S := (S.next B4).put L5
  clear L5 B4 KM
  go_wp2_with fail
  refine (K12.out _).mono ?_
  rintro e w5 ⟨A6, n6, c6, rfl, L6, B5⟩
  have S := (S.next B5).put L6
  clear L6 B5
  go_wp2_with fail
  refine (K18.out _).mono ?_
  rintro e w6 ⟨A7, n7, c7, rfl, L7, B6⟩
  have S := (S.next B6).put L7
  clear L7 B6
  go_wp2_with fail
  have KG := gcd_any S.lie.2.1 S.lie.1 (ln_tiny (by decide)) (ln_tiny (by decide))
  rw [eN4] at KG
  refine KG.mono ?_
  rintro e w7 ⟨A8, n8, c8, rfl, L8, B7⟩
  have S := (S.next B7).put L8
  clear L8 B7 KG
  go_wp2_with fail
  refine (K1.out _).mono ?_
  rintro e w8 ⟨A9, n9, c9, rfl, L9, B8⟩
  have S := (S.next B8).put L9
  clear L9 B8
  go_wp2_with fail
  refine (sub_under (lim_zero _ none 0 (by decide)) S.lie.1 (ln_tiny (by decide)) (ln_tiny (by decide)) (by decide)).mono ?_
  rintro e w9 ⟨rfl, m, rfl⟩
  have S := S.drewN m
  go_wp2_with fail
  refine (div_zero S.lie.2.2.2.2.2.2.2.2.1 (Lim.none_ _ none 0 (by decide)) lN).mono ?_
  rintro e w10 ⟨rfl, rfl⟩
  generalize w8.drewN m = w9 at *
  have c0 := S.lie.2.2.2.2.2.2.2.2.1.cell 2 (by rw [limbs_a]; decide)
  simp only [limbs_a, List.getElem_cons_succ, List.getElem_cons_zero] at c0
  have c1 : w9.cell? ⟨ad.block, ad.off + 2, none⟩ = some (.int .u32 1) := c0
  clear c0
  go_wp2_with fail
  have KT := text_any S.lie.2.2.2.2.2.2.1 (ln_tiny (by decide))
  rw [text_q] at KT
  refine KT.mono ?_
  rintro e w10 ⟨rfl, B10⟩
  have S := S.next B10
  clear KT B10 c1
  go_wp2_with fail
  refine (K6.out _).mono ?_
  rintro e w11 ⟨A11, n11, c11, rfl, L11, B11⟩
  have S := (S.next B11).put L11
  clear L11 B11
  go_wp2_with fail
  have KS := same_bel S.lie.2.2.2.2.2.2.1 S.lie.1
  rw [sameB_yes] at KS
  refine KS.mono ?_
  rintro e w12 ⟨rfl, B12⟩
  have S := S.next B12
  clear KS B12
  go_wp2_with fail
  have KB := bits_any S.lie.2.2.2.2.2.1 lM
  rw [bl_m] at KB
  refine KB.mono ?_
  rintro e w13 ⟨rfl, rfl⟩
  clear KB
  go_wp2_with fail
  have KD := text_any S.lie.2.2.1 (ln_tiny (by decide))
  rw [text_d] at KD
  refine KD.mono ?_
  rintro e w14 ⟨rfl, B14⟩
  have S := S.next B14
  clear KD B14
  go_wp2_with fail
  have KC := cmp_bel S.lie.2.2.2.2.2.2.2.2.2.1 S.lie.2.2.2.2.2.1 lN lM
  rw [sgn_lt (by decide)] at KC
  refine KC.mono ?_
  rintro e w15 ⟨rfl, B15⟩
  have S := S.next B15
  clear KC B15
  go_wp2_with fail
  go_ret
  exact ⟨rfl, S.bl⟩
end Go.Proofs.YtdnikdocfbbkkaaDoor
namespace Go.Proofs.YtdnikdocfbbkkaaDoor
theorem ln_mul {a b n m : Nat} (ha : ln a ≤ n) (hb : ln b ≤ m) : ln (a * b) ≤ n + m := by
  refine ln_le ?_
  rw [Nat.pow_add]
  have h1 := Nat.lt_of_lt_of_le (lt_ln a) (Nat.pow_le_pow_right B_pos ha)
  have h2 := Nat.lt_of_lt_of_le (lt_ln b) (Nat.pow_le_pow_right B_pos hb)
  exact Nat.mul_lt_mul'' h1 h2
theorem ln_add {a b n : Nat} (ha : ln a ≤ n) (hb : ln b ≤ n) : ln (a + b) ≤ n + 1 := by
  refine ln_le ?_
  rw [Nat.pow_succ]
  have h1 := Nat.lt_of_lt_of_le (lt_ln a) (Nat.pow_le_pow_right B_pos ha)
  have h2 := Nat.lt_of_lt_of_le (lt_ln b) (Nat.pow_le_pow_right B_pos hb)
  have h3 : B ^ n * 2 ≤ B ^ n * B := Nat.mul_le_mul_left _ (by rw [B_eq]; decide)
  omega
theorem bl_mono {a b : Nat} (h : a ≤ b) : bl a ≤ bl b := bl_le (Nat.lt_of_le_of_lt h (lt_bl b))
theorem bl_eq_zero {a : Nat} (h : bl a = 0) : a = 0 := by
  apply Decidable.byContradiction
  intro k
  have := bl_pos k
  omega
theorem bl_mul {a b : Nat} (ha : a ≠ 0) (hb : b ≠ 0) : bl (a * b) = bl a + bl b ∨ bl (a * b) + 1 = bl a + bl b := by
  have a1 := lt_bl a; have a2 := le_bl ha; have a3 := bl_pos ha
  have b1 := lt_bl b; have b2 := le_bl hb; have b3 := bl_pos hb
  have hi : a * b < 2 ^ (bl a + bl b) := by rw [Nat.pow_add]; exact Nat.mul_lt_mul'' a1 b1
  have lo : 2 ^ (bl a - 1 + (bl b - 1)) ≤ a * b := by rw [Nat.pow_add]; exact Nat.mul_le_mul a2 b2
  have u := bl_le hi
  have nz : a * b ≠ 0 := Nat.mul_ne_zero ha hb
  have l : bl a - 1 + (bl b - 1) < bl (a * b) := pow_lt_pow_iff (Nat.lt_of_le_of_lt lo (lt_bl _))
  omega
theorem bl_add (a b : Nat) : max (bl a) (bl b) ≤ bl (a + b) ∧ bl (a + b) ≤ max (bl a) (bl b) + 1 := by
  have m1 := bl_mono (show a ≤ a + b by omega)
  have m2 := bl_mono (show b ≤ a + b by omega)
  refine ⟨Nat.max_le.2 ⟨m1, m2⟩, bl_le ?_⟩
  rw [Nat.pow_succ]
  have h1 := Nat.lt_of_lt_of_le (lt_bl a) (Nat.pow_le_pow_right (n := 2) (by decide) (Nat.le_max_left (bl a) (bl b)))
  have h2 := Nat.lt_of_lt_of_le (lt_bl b) (Nat.pow_le_pow_right (n := 2) (by decide) (Nat.le_max_right (bl a) (bl b)))
  omega
theorem bl_ln {a : Nat} {n : Nat} (h : ln a ≤ n) : bl a ≤ 32 * n := by
  refine bl_le ?_
  rw [← B_pow]
  exact Nat.lt_of_lt_of_le (lt_ln a) (Nat.pow_le_pow_right B_pos h)
end Go.Proofs.YtdnikdocfbbkkaaDoor
