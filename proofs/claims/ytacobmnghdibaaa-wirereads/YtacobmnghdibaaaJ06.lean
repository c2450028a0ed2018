/- The document's answers: the walks of Right, Small, Cmp, Bits; told. The document's answers: the walk of ReadNat. Plain: naturals that are written are read; what is read would be written so. One block of the call's own turns, all else stays; what ends by a panic: need, take, ahead. Rows of bytes that a call makes: an own row, and what append does to it. -/
import Derived.Test.YtacobmnghdibaaaJ05
import Derived.WalkSmall
import Derived.Recover
import Derived.Laws.AppendOwnNone
import Derived.ArgAppend
import Derived.Laws.BytesArg
import Derived.Laws.IdiomStrings
namespace Go.Proofs.Ytacobmnghdibaaa
open Go.RowKit
set_option linter.unusedVariables false
set_option linter.unusedSimpArgs false

open Classical in
/-- Are limbs a natural's? -/
noncomputable def ntB (xs : List Nat) : Bool := decide (Nt xs)
theorem ntB_yes {xs : List Nat} (h : Nt xs) : ntB xs = true := by unfold ntB; simpa using h
theorem ntB_no {xs : List Nat} (h : ¬ Nt xs) : ntB xs = false := by unfold ntB; simpa using h

set_option maxRecDepth 100000 in
theorem refRight_yes {A : Option Addr} {n c a : Nat} {w : World} (h : Lim w A n c (limbs a)) (hm : ln a ≤ 64) : Calls Try.prog 11 #[.slice A n c] w fun e w' => e = .returned (.bool true) ∧ w = w' := by
  have hl := h.len
  rw [limbs_length] at hl
  by_cases hz : n = 0
  · subst hz
    clear h hl hm
    go_enter Try.func11, Try.ntmps11
    go_wp2
    go_ret
    exact ⟨rfl, rfl⟩
  · obtain ⟨ad, rfl⟩ := h.some_ (by omega)
    have hc := h.cell (n - 1) (by rw [limbs_length]; omega)
    have hx := last_ne_zero (a := a) (k := n - 1) (by rw [limbs_length]; omega)
    generalize (limbs a)[n - 1]'(by rw [limbs_length]; omega) = x at *
    have h1 : ((n : Int) == 0) = false := by simpa using hz
    have h2 : Hid (0 < x) := by unfold Hid; omega
    have h3 : ¬ (64 : Int) < (n : Int) := by omega
    clear hl h hm hx
    go_enter Try.func11, Try.ntmps11
    go_wp2
    go_ret
    exact ⟨congrArg (fun b => Ending.returned (.bool b)) (decide_eq_true h2.out), rfl⟩
set_option maxRecDepth 100000 in
theorem refRight_no {A : Option Addr} {n c : Nat} {xs : List Nat} {w : World} (h : Lim w A n c xs) (hm : ¬ Nt xs) : Calls Try.prog 11 #[.slice A n c] w fun e w' => e = .returned (.bool false) ∧ w = w' := by
  have hl := h.len
  have hz : n ≠ 0 := by
    rintro rfl
    have e := List.eq_nil_of_length_eq_zero hl
    subst e
    exact hm ⟨by simp, fun hn => absurd rfl hn⟩
  have h1 : ((n : Int) == 0) = false := by simpa using hz
  by_cases k : n ≤ 64
  · obtain ⟨j, ej, e0⟩ := Nt.no hm (by omega)
    obtain ⟨ad, rfl⟩ := h.some_ (by omega)
    have hc := h.cell (n - 1) (by omega)
    have ejn : n - 1 = j := by omega
    have e0' : xs[n - 1]'(by omega) = 0 := by
      have := (List.getElem?_eq_some_iff.1 e0).2
      simpa only [ejn] using this
    rw [e0'] at hc
    have h3 : ¬ (64 : Int) < (n : Int) := by omega
    clear hl h hm e0 e0' ejn ej
    go_enter Try.func11, Try.ntmps11
    go_wp2
    go_ret
    exact ⟨rfl, rfl⟩
  · have h3 : (64 : Int) < (n : Int) := by omega
    clear hl h hm
    go_enter Try.func11, Try.ntmps11
    go_wp2
    go_ret
    exact ⟨rfl, rfl⟩
theorem nt_lim {w : World} {A : Option Addr} {n c : Nat} {xs : List Nat} (h : Lim w A n c xs) (k : Nt xs) : Lim w A n c (limbs (val xs)) ∧ ln (val xs) ≤ 64 := by
  refine ⟨k.eq h.lo ▸ h, ?_⟩
  unfold ln
  rw [← k.eq h.lo]
  exact k.1
theorem refRight_any {A : Option Addr} {n c : Nat} {xs : List Nat} {w : World} (h : Lim w A n c xs) : Calls Try.prog 11 #[.slice A n c] w fun e w' => e = .returned (.bool (ntB xs)) ∧ w = w' := by
  by_cases k : Nt xs
  · rw [ntB_yes k]; exact refRight_yes (nt_lim h k).1 (nt_lim h k).2
  · rw [ntB_no k]; exact refRight_no h k
theorem right_any {A : Option Addr} {n c : Nat} {xs : List Nat} {w : World} (h : Lim w A n c xs) : Calls Try.prog 33 #[.slice A n c] w fun e w' => e = .returned (.bool (ntB xs)) ∧ w = w' := by
  by_cases k : Nt xs
  · rw [ntB_yes k]; exact right_yes (nt_lim h k).1 (nt_lim h k).2
  · rw [ntB_no k]; exact right_no h k
set_option maxHeartbeats 1000000 in
set_option maxRecDepth 100000 in
theorem refCmp_any {A A' : Option Addr} {n c n' c' a b : Nat} {w : World} (ha : Lim w A n c (limbs a)) (hb : Lim w A' n' c' (limbs b)) (la : ln a ≤ 100000) (lb : ln b ≤ 100000) :
    Calls Try.prog 58 #[.slice A n c, .slice A' n' c'] w fun e w' => e = .returned (.int .i64 (sgn a b)) ∧ ∃ m, w' = w.drewN m := by
  have HA := Lib.hid ha; have HB := Lib.hid hb
  have hl := ha.len; have hl' := hb.len
  rw [limbs_length] at hl hl'
  by_cases hn : n = n'
  · subst hn
    have EL : Hid (ln a = n) := hl; have EL' : Hid (ln b = n) := hl'
    have n64 : n ≤ 100000 := by omega
    have h0 : ((n : Int) != n) = false := by simp
    clear ha hb hl hl' la lb
    go_enter Try.func58, Try.ntmps58
    go_wp2_with fail
    go_loopg [5] n (fun g s5 wr => ∃ m, g ≤ n ∧ s5 = .int .i64 ((g : Int) - 1) ∧ Hid ((limbs a).drop g = (limbs b).drop g) ∧ wr = w.drewN m)
    case atStart => exact ⟨0, Nat.le_refl _, rfl, by unfold Hid; rw [List.drop_of_length_le (by rw [limbs_length, EL.out]; exact Nat.le_refl _), List.drop_of_length_le (by rw [limbs_length, EL'.out]; exact Nat.le_refl _)], rfl⟩
    case round =>
      obtain ⟨m, hg, rfl, hv, rfl⟩ := hrel
      by_cases hz : gk = 0
      · subst hz
        have ES : Hid (sgn a b = 0) := by
          have : limbs a = limbs b := by simpa using hv.out
          unfold Hid
          rw [limbs_inj this, sgn_eq]
        have ek : ((0 : Nat) : Int) - 1 = -1 := by omega
        rw [ek]
        clear ek
        go_wp2_with fail
        go_ret
        exact ⟨by rw [ES.out]; rfl, _, rfl⟩
      · obtain ⟨k, rfl⟩ : ∃ k, gk = k + 1 := ⟨gk - 1, by omega⟩
        have ek : ((k + 1 : Nat) : Int) - 1 = (k : Int) := by omega
        rw [ek]
        obtain ⟨ad, rfl⟩ := HA.out.some_ (by omega)
        obtain ⟨ad', rfl⟩ := HB.out.some_ (by omega)
        have ka : k < (limbs a).length := by rw [limbs_length, EL.out]; omega
        have kb : k < (limbs b).length := by rw [limbs_length, EL'.out]; omega
        have c1 := HA.out.cell k ka
        have c2 := HB.out.cell k kb
        by_cases hx : (limbs a)[k] = (limbs b)[k]
        · have HV : Hid ((limbs a).drop k = (limbs b).drop k) := drop_step ka kb hx hv.out
          rw [← hx] at c2
          generalize (limbs a)[k] = x at *
          have h2 : ((x : Int) != x) = false := by simp
          clear hx ek
          go_wp2_with fail
          go_quiet (fail)
          go_wp2_with fail
          go_roundg k
          case measure => omega
          case rel => exact ⟨_, by omega, rfl, HV, rfl⟩
        · have ES := Lib.hid (sgn_top ka kb hv.out hx)
          generalize (limbs a)[k] = x at *
          generalize (limbs b)[k] = y at *
          have h2 : ((x : Int) != y) = true := by simp; omega
          by_cases xy : x < y
          · have xy' : (x : Int) < y := by omega
            rw [sgn_lt xy] at ES
            clear hx ek
            go_wp2_with fail
            go_quiet (fail)
            go_wp2_with fail
            go_quiet (fail)
            go_wp2_with fail
            go_ret
            exact ⟨by rw [← ES.out]; rfl, drew3 _ _ _ _⟩
          · have xy' : ¬ (x : Int) < y := by omega
            rw [sgn_gt (by omega)] at ES
            clear hx ek
            go_wp2_with fail
            go_quiet (fail)
            go_wp2_with fail
            go_quiet (fail)
            go_wp2_with fail
            go_ret
            exact ⟨by rw [← ES.out]; rfl, drew3 _ _ _ _⟩
  · have ES := Lib.hid (sgn_ln (a := a) (b := b) (by omega))
    rw [hl, hl'] at ES
    have h0 : ((n : Int) != n') = true := by simp; omega
    by_cases xy : n < n'
    · have xy' : (n : Int) < n' := by omega
      rw [sgn_lt xy] at ES
      clear ha hb hl hl' la lb
      go_enter Try.func58, Try.ntmps58
      go_wp2_with fail
      go_ret
      exact ⟨by rw [← ES.out]; rfl, 0, rfl⟩
    · have xy' : ¬ (n : Int) < n' := by omega
      rw [sgn_gt (by omega)] at ES
      clear ha hb hl hl' la lb
      go_enter Try.func58, Try.ntmps58
      go_wp2_with fail
      go_ret
      exact ⟨by rw [← ES.out]; rfl, 0, rfl⟩
end Go.Proofs.Ytacobmnghdibaaa
namespace Go.Proofs.Ytacobmnghdibaaa
open Go.RowKit
set_option linter.unusedVariables false
set_option linter.unusedSimpArgs false
set_option maxHeartbeats 1000000
set_option maxRecDepth 100000
/-- Is there a natural? -/
def okA (s : ByteArray) (p : Int) (lo : Bool) : Prop := okR s.size p lo = true ∧ (numOf (L (restB s p lo))).2 ≠ 0 ∧ (numOf (L (restB s p lo))).1 ≤ 64 ∧ (numOf (L (restB s p lo))).2 + 4 * (numOf (L (restB s p lo))).1 ≤ (restB s p lo).size ∧ Nt (lims ((L (restB s p lo)).drop (numOf (L (restB s p lo))).2) (numOf (L (restB s p lo))).1)
/-- Limbs, and how many bytes they have, or none. -/
@[irreducible] noncomputable def readA (s : ByteArray) (p : Int) (lo : Bool) : Option (List Nat × Nat) :=
  open Classical in if okA s p lo then some (lims ((L (restB s p lo)).drop (numOf (L (restB s p lo))).2) (numOf (L (restB s p lo))).1, (numOf (L (restB s p lo))).2 + 4 * (numOf (L (restB s p lo))).1) else none
theorem readA_none {s : ByteArray} {p : Int} {lo : Bool} (h : ¬ okA s p lo) : readA s p lo = none := by unfold readA; rw [if_neg h]
theorem readA_some {s : ByteArray} {p : Int} {lo : Bool} (h : okA s p lo) : readA s p lo = some (lims ((L (restB s p lo)).drop (numOf (L (restB s p lo))).2) (numOf (L (restB s p lo))).1, (numOf (L (restB s p lo))).2 + 4 * (numOf (L (restB s p lo))).1) := by unfold readA; rw [if_pos h]
/-- What ReadNat answers. -/
def RetL (s : ByteArray) (p : Int) (x : Option (List Nat × Nat)) (w : World) (e : Ending) (w' : World) : Prop :=
  ∃ A n c, e = .returned (.tuple #[.slice A n c, rdo s p (x.map Prod.snd)]) ∧ Lim w' A n c ((x.map Prod.fst).getD []) ∧ Below w.heap.size w w'
theorem own_base8 {w : World} {base n : Nat} {e : TypeId} {v : Value} {xs : List Value} (h : w.ownsRow base e 1 v n xs) : ∀ k, v.ownBlock = some k → base ≤ k := by
  intro k hk
  rcases h.2 with ⟨rfl, _⟩ | ⟨g, cap, cur, rfl, h0, _⟩
  · simp [Value.ownBlock] at hk
  · simp [Value.ownBlock] at hk
    omega
theorem Lim.put {w : World} {A : Option Addr} {n c : Nat} {xs : List Nat} (h : Lim w A n c xs) {p : Addr} (hp : ∀ ad, A = some ad → ad.block ≠ p.block) (u : Value) : Lim (w.setCell p u) A n c xs :=
  ⟨h.len, h.cap, h.top, fun j hj => by
    obtain ⟨ad, e, hc⟩ := h.at_ j hj
    exact ⟨ad, e, keep_set hc u (by rw [block_add]; exact hp ad e)⟩, h.lo⟩
theorem refReadNat_any (s : ByteArray) (p : Int) (lo : Bool) (hs : s.size ≤ 9223372036854775807) (w : World) : Calls Try.prog 38 #[rd s p lo] w fun e w' => RetL s p (readA s p lo) w e w' := by
  obtain ⟨i0, hi, hz0, hz1, hz2⟩ := info_parts info_u32
  have HI := Lib.hid hi; have HZ0 := Lib.hid hz0; have HZ1 := Lib.hid hz1; have HZ2 := Lib.hid hz2
  clear hi hz0 hz1 hz2
  have KR := Lib.hid (fun W => refRest_any s p lo hs W)
  have KN := Lib.hid (fun W => refNum_any (restB s p lo) (Nat.le_trans (restB_size s p lo) hs) W)
  have KG := Lib.hid (fun W => refGone_any s p lo W)
  have NO := Lib.hid (@readA_none s p lo)
  have YES := Lib.hid (@readA_some s p lo)
  unfold okA at NO YES
  have NL := Lib.hid (numOf_le (L (restB s p lo)))
  have FIT : Hid (∀ k : Nat, okR s.size p lo = true → k ≤ (restB s p lo).size → lo = false ∧ ∃ i : Nat, p = i ∧ i + k ≤ s.size) := by
    intro k h hk
    obtain ⟨rfl, i, rfl, hi⟩ := okR_yes h
    rw [restB_yes hi, ByteArray.size_extract] at hk
    exact ⟨rfl, i, rfl, by omega⟩
  rw [L_len] at NL
  obtain ⟨b, hb⟩ : ∃ b, b = restB s p lo := ⟨_, rfl⟩
  obtain ⟨ok, hok⟩ : ∃ x, x = okR s.size p lo := ⟨_, rfl⟩
  have hb9 : b.size ≤ s.size := by rw [hb]; exact restB_size s p lo
  rw [← hb] at KR KN NO YES NL FIT
  rw [← hok] at KR NO YES FIT
  clear hb hok
  obtain ⟨nn, hn⟩ : ∃ n, n = (numOf (L b)).1 := ⟨_, rfl⟩
  obtain ⟨kk, hk⟩ : ∃ n, n = (numOf (L b)).2 := ⟨_, rfl⟩
  have hnk : numOf (L b) = (nn, kk) := by rw [hn, hk]
  rw [hnk] at KN NO YES NL
  dsimp only at NO YES
  have nl := NL.out
  obtain ⟨g, hg⟩ : ∃ g, w.heap.size = g := ⟨_, rfl⟩
  have M := Duo.new w #[.string s, .int .i64 p, .bool lo] #[.string ⟨#[]⟩, .int .i64 0, .bool false] 42 42
  rw [hg] at M
  clear hnk hn hk NL
  go_enter Try.func38, Try.ntmps38
  go_wp2_with fail
  clear hg
  generalize (w.alloc (.cells #[.string s, .int .i64 p, .bool lo] 42)).alloc (.cells #[.string ⟨#[]⟩, .int .i64 0, .bool false] 42) = W at *
  generalize g + 1 = r at *
  obtain ⟨c0, c1, c2⟩ := M.bg.three
  go_wp2_with fail
  clear c0 c1 c2
  refine (KR.out _).mono ?_
  rintro e W1 ⟨rfl, B1⟩
  replace M := M.next B1
  clear B1
  go_wp2_with fail
  refine (KN.out _).mono ?_
  rintro e W2 ⟨rfl, B2⟩
  replace M := M.next B2
  clear B2
  obtain ⟨c0, c1, c2⟩ := M.bg.three
  obtain ⟨k0, k1, k2⟩ := M.br.three
  have m0 := M.br.melt 0; have m1 := M.br.melt 1; have m2 := M.br.melt 2
  by_cases h : ok = true ∧ kk ≠ 0 ∧ nn ≤ 64 ∧ kk + 4 * nn ≤ b.size
  · obtain ⟨rfl, h1, h2, h3⟩ := h
    obtain ⟨rfl, i, rfl, hi⟩ := FIT.out (kk + 4 * nn) rfl h3
    replace YES : Hid (Nt (lims ((L b).drop kk) nn) → _) := fun h => YES.out ⟨rfl, h1, h2, h3, h⟩
    replace NO : Hid (¬ Nt (lims ((L b).drop kk) nn) → _) := fun h => NO.out fun x => h x.2.2.2.2
    have k9 : ((kk : Int) == 0) = false := by simpa using h1
    obtain ⟨d, hd⟩ : ∃ d, b.size = kk + d := ⟨b.size - kk, by omega⟩
    have n9 : ¬ 64 < nn := by omega
    have n7 : ¬ (d : Int) < 4 * nn := by omega
    have w2 : IntKind.i64.wrap ((b.size : Int) - kk) = d := by rw [IntKind.wrap_i64]; omega
    have w4 : IntKind.i64.wrap (nn : Int) = nn := by rw [IntKind.wrap_i64]; omega
    have w5 : IntKind.i64.wrap (4 * (nn : Int)) = 4 * nn := by rw [IntKind.wrap_i64]; omega
    clear FIT
    have S0 : W2.ownsRow W2.heap.size 62 1 (.slice none 0 0) 0 ((lims ((L b).drop kk) 0).map lv) := World.ownsRow_nil _ _ _ _
    clear c0 c1 c2 k0 k1 k2 m0 m1 m2
    go_wp2_with fail
    go_loopg [8, 9] nn (fun q s8 s9 wr => ∃ j : Nat, j + q = nn ∧ s9 = .int .i64 (j : Int) ∧ wr.ownsRow W2.heap.size 62 1 s8 j ((lims ((L b).drop kk) j).map lv) ∧ Below W2.heap.size W2 wr)
    case atStart => exact ⟨0, by omega, rfl, S0, Below.refl _ _⟩
    case round =>
      clear S0
      obtain ⟨j, hq, rfl, po, BL⟩ := hrel
      have HQ := Lib.hid hq
      have PO := Lib.hid po
      have BLH := Lib.hid BL
      by_cases lt : j < nn
      · have jl : (j : Int) < nn := by omega
        obtain ⟨a, ha⟩ : ∃ a, a = kk + 4 * j := ⟨_, rfl⟩
        have v1 : IntKind.i64.wrap (4 * (j : Int)) = 4 * j := by rw [IntKind.wrap_i64]; omega
        have v2 : IntKind.i64.wrap ((kk : Int) + 4 * j) = a := by rw [ha, IntKind.wrap_i64]; omega
        obtain ⟨a4, ha4⟩ : ∃ x, x = a + 4 := ⟨_, rfl⟩
        have v3 : IntKind.i64.wrap ((a : Int) + 4) = a4 := by rw [ha4, IntKind.wrap_i64]; omega
        have s1 : (0 : Int) ≤ a := by omega
        have s2 : (a : Int) ≤ a4 := by omega
        have s3 : (a4 : Int) ≤ b.size := by omega
        have hsl : ∀ W : World, (Instr.slice 9 (.string b) (some (.int .i64 (a : Int))) (some (.int .i64 (a4 : Int))) none).run Try.prog W = .ok (.string (b.extract a a4)) W := fun W => run_slice_string W 9 b .i64 .i64 (a : Int) (a4 : Int) Try.underlying9 s1 s2 s3
        have KV : Hid (∀ W, _) := fun W => refValue_any (b.extract a a4) (by rw [ByteArray.size_extract]; omega) W
        have EX : L (b.extract a a4) = ((L b).drop kk |>.drop (4 * j)).take 4 := by rw [L_ext, ha4, Nat.add_sub_cancel_left, List.drop_drop, ha]
        have x4 := vle_lt (L (b.extract a a4))
        have x5 : vle (L (b.extract a a4)) < 4294967296 := Nat.lt_of_lt_of_le x4 (Nat.le_trans (Nat.pow_le_pow_right (by decide) (by rw [EX, List.length_take]; exact Nat.min_le_left _ _)) (by decide : 256 ^ 4 ≤ 4294967296))
        have SN : lims ((L b).drop kk) (j + 1) = lims ((L b).drop kk) j ++ [vle (L (b.extract a a4))] := by rw [lims_snoc, EX]
        generalize vle (L (b.extract a a4)) = x at *
        generalize b.extract a a4 = bb at *
        have wx : IntKind.u32.wrap (x : Int) = x := by rw [IntKind.wrap_u32]; omega
        have hb2 : W2.heap.size ≤ wr.heap.size := BL.size
        have KS : Hid (∀ (v2 : Value) (w2 : World) (o : Obj), w2.ownsRow W2.heap.size 62 1 v2 (j + 1) ((lims ((L b).drop kk) j).map lv ++ [lv x]) → (wr.alloc o).grownBy w2 (Value.ownBlock u8) → w2.ownsRow W2.heap.size 62 1 v2 (j + 1) ((lims ((L b).drop kk) (j + 1)).map lv) ∧ Below W2.heap.size W2 w2) := by
          intro v2 w2 o h1 h2
          refine ⟨by rw [SN, List.map_append]; exact h1, (BL.alloc BL.size o).grown h2 (by have := BL.size; simp; omega) (own_base8 po)⟩
        generalize (lims ((L b).drop kk) j).map lv = ys at *
        clear hq po BL x4 EX SN ha ha4
        go_wp2_with fail
        refine (KV.out _).mono ?_
        rintro e z ⟨rfl, rfl⟩
        go_wp2_with (at_builtin; refine wpList_append_own _ rfl _ _ 24 rfl W2.heap.size 62 i0 (.int .u32 0) 1 4 Try.underlying24 HI.out HZ0.out HZ1.out HZ2.out rfl (by decide) _ j ys rfl (PO.out.alloc _) ⟨wr.heap.size, 0, none⟩ 1 1 [lv x] rfl rfl ?qc2 ?qc3 ?qc4 ?qc5 ?qc6 ?_)
        case qc2 => first | exact cell_one_new wr _ _ | exact fun _ _ h => h
        case qc3 => first | (intro u hu; rw [List.mem_singleton] at hu; rw [hu]; rfl) | rfl
        case qc4 => unfold maxLen; omega
        case qc5 => omega
        case qc6 => first | omega | (simp; omega)
        intro v9 w9 hown hg _
        have STh := Lib.hid (KS.out v9 w9 _ hown hg)
        clear hown hg
        go_wp2_with fail
        go_roundg (gk - 1)
        case measure => have := HQ.out; omega
        case rel =>
          go_light
          exact ⟨j + 1, by have := HQ.out; omega, by go_num, STh.out.1, STh.out.2⟩
      · obtain rfl : j = nn := by omega
        have jl : ¬ (j : Int) < j := by omega
        have OB := own_base8 po
        have RL := M.br.lt
        obtain ⟨A2, c2', rfl, L2⟩ := own_lim po (lims_lo _ _)
        have NE : Hid (∀ ad, A2 = some ad → ad.block ≠ r) := by
          rintro ad rfl
          have := OB ad.block (by simp [Value.ownBlock])
          omega
        clear OB RL
        replace M := M.next BL
        have KT := Lib.hid (refRight_any L2)
        have LH := Lib.hid L2
        generalize lims ((L b).drop kk) j = xs at *
        clear hq po BL PO BLH L2
        obtain ⟨c0, c1, c2⟩ := M.bg.three
        obtain ⟨k0, k1, k2⟩ := M.br.three
        have m0 := M.br.melt 0; have m1 := M.br.melt 1; have m2 := M.br.melt 2
        by_cases nt : Nt xs
        · have R := Lib.hid (YES.out nt)
          have NB := ntB_yes nt
          rw [NB] at KT
          obtain ⟨jj, hjj⟩ : ∃ x : Int, x = (i : Int) + kk + 4 * j := ⟨_, rfl⟩
          have w6 : IntKind.i64.wrap ((i : Int) + kk) = (i : Int) + kk := by rw [IntKind.wrap_i64]; omega
          have ew : IntKind.i64.wrap ((i : Int) + kk + 4 * j) = jj := by rw [hjj, IntKind.wrap_i64]; omega
          have HJ := Lib.hid hjj
          clear nt NB hjj YES NO
          go_wp2_with fail
          refine KT.out.mono ?_
          rintro e z ⟨rfl, rfl⟩
          go_wp2_with fail
          go_region
          all_goals go_wp2_with fail
          clear c0 c1 c2 k0 k1 k2 m0 m1 m2
          replace M := (M.put3 (.string s) (.int .i64 jj) (.bool false)).drew
          have LL : Hid (Lim (((wr.setCell ⟨r, 0, none⟩ (.string s)).setCell ⟨r, 1, none⟩ (.int .i64 jj)).setCell ⟨r, 2, none⟩ (.bool false)).drew A2 j c2' xs) := by
            exact (((LH.out.put NE.out _).put NE.out _).put NE.out _).drew
          generalize (((wr.setCell ⟨r, 0, none⟩ (.string s)).setCell ⟨r, 1, none⟩ (.int .i64 jj)).setCell ⟨r, 2, none⟩ (.bool false)).drew = W9 at *
          obtain ⟨z0, z1, z2⟩ := M.br.three
          exact bodyPost_ret (v := .tuple #[.slice A2 j c2', rd s jj false]) (by simp [results, Try.results38, go_sem, z0, z1, z2]) rfl ⟨A2, j, c2', by rw [R.out, HJ.out, Int.add_assoc]; rfl, by rw [R.out]; exact LL.out, M.bl⟩
        · have R := Lib.hid (NO.out nt)
          have NB := ntB_no nt
          rw [NB] at KT
          clear nt NB YES NO
          go_wp2_with fail
          refine KT.out.mono ?_
          rintro e z ⟨rfl, rfl⟩
          go_wp2_with fail
          clear c0 c1 c2 k0 k1 k2 m0 m1 m2
          refine (KG.out _).mono ?_
          rintro e W3 ⟨rfl, B3⟩
          replace M := M.next B3
          clear B3
          obtain ⟨k0, k1, k2⟩ := M.br.three
          have m0 := M.br.melt 0; have m1 := M.br.melt 1; have m2 := M.br.melt 2
          go_wp2_with fail
          clear k0 k1 k2 m0 m1 m2
          replace M := (M.put3 (.string s) (.int .i64 (i : Int)) (.bool true))
          generalize (((W3.setCell ⟨r, 0, none⟩ (.string s)).setCell ⟨r, 1, none⟩ (.int .i64 (i : Int))).setCell ⟨r, 2, none⟩ (.bool true)) = W9 at *
          obtain ⟨z0, z1, z2⟩ := M.br.three
          exact bodyPost_ret (v := .tuple #[.slice none 0 0, rd s i true]) (by simp [results, Try.results38, go_sem, z0, z1, z2]) rfl ⟨none, 0, 0, by rw [R.out]; rfl, by rw [R.out]; exact Lim.none_ _ _ _ (by decide), M.bl⟩
  · replace NO := Lib.hid (NO.out fun x => h ⟨x.1, x.2.1, x.2.2.1, x.2.2.2.1⟩)
    have R := NO
    clear YES NO
    have hc : ok = false ∨ (ok = true ∧ ((kk : Int) == 0) = true) ∨ (ok = true ∧ ((kk : Int) == 0) = false ∧ 64 < nn) ∨ (ok = true ∧ ((kk : Int) == 0) = false ∧ ∃ d : Nat, ¬ 64 < nn ∧ b.size = kk + d ∧ (d : Int) < 4 * nn) := by
      cases ok
      · exact Or.inl rfl
      · refine Or.inr ?_
        by_cases k9 : kk = 0
        · exact Or.inl ⟨rfl, by simpa using k9⟩
        · refine Or.inr ?_
          by_cases k7 : 64 < nn
          · exact Or.inl ⟨rfl, by simpa using k9, k7⟩
          · exact Or.inr ⟨rfl, by simpa using k9, b.size - kk, k7, by omega, by have : ¬ kk + 4 * nn ≤ b.size := fun h9 => h ⟨rfl, k9, by omega, h9⟩; omega⟩
    clear h
    rcases hc with rfl | ⟨rfl, k9⟩ | ⟨rfl, k9, k8⟩ | ⟨rfl, k9, d, n9, hd, n7⟩
    all_goals
      try have w2 : IntKind.i64.wrap ((b.size : Int) - kk) = d := by rw [IntKind.wrap_i64]; omega
      try have w4 : IntKind.i64.wrap (nn : Int) = nn := by rw [IntKind.wrap_i64]; omega
      try have w5 : IntKind.i64.wrap (4 * (nn : Int)) = 4 * nn := by rw [IntKind.wrap_i64]; omega
      go_wp2_with fail
      clear c0 c1 c2 k0 k1 k2 m0 m1 m2
      refine (KG.out _).mono ?_
      rintro e W3 ⟨rfl, B3⟩
      replace M := M.next B3
      clear B3
      obtain ⟨k0, k1, k2⟩ := M.br.three
      have m0 := M.br.melt 0; have m1 := M.br.melt 1; have m2 := M.br.melt 2
      go_wp2_with fail
      clear k0 k1 k2 m0 m1 m2
      replace M := (M.put3 (.string s) (.int .i64 p) (.bool true))
      generalize (((W3.setCell ⟨r, 0, none⟩ (.string s)).setCell ⟨r, 1, none⟩ (.int .i64 p)).setCell ⟨r, 2, none⟩ (.bool true)) = W9 at *
      obtain ⟨z0, z1, z2⟩ := M.br.three
      exact bodyPost_ret (v := .tuple #[.slice none 0 0, rd s p true]) (by simp [results, Try.results38, go_sem, z0, z1, z2]) rfl ⟨none, 0, 0, by rw [R.out]; rfl, by rw [R.out]; exact Lim.none_ _ _ _ (by decide), M.bl⟩
end Go.Proofs.Ytacobmnghdibaaa
namespace Go.Proofs.Ytacobmnghdibaaa
open Go.RowKit
set_option linter.unusedVariables false
set_option linter.unusedSimpArgs false
/-- A natural that is written is read. -/
theorem readA_back {s : ByteArray} {i : Nat} {xs : List Nat} {a b : List UInt8} (h : L s = a ++ (natS xs ++ b)) (hi : i = a.length) (nt : Nt xs) (lo : Lo xs) : readA s i false = some (xs, (natS xs).length) := by
  have e : (L s).length = a.length + (natS xs ++ b).length := by rw [h, List.length_append]
  rw [L_len] at e
  have R := restB_at h hi
  rw [List.append_assoc] at R
  have n64 := nt.1
  have hn : xs.length < 18446744073709551616 := by omega
  have N : numOf (L (restB s i false)) = (xs.length, (enc xs.length).length) := by rw [R, numOf_app hn]
  have D : (L (restB s i false)).drop (enc xs.length).length = lbs xs ++ b := by rw [R, List.drop_left' rfl]
  have Q : lims ((L (restB s i false)).drop (enc xs.length).length) xs.length = xs := by rw [D, lims_lbs lo]
  have p := enc_pos xs.length
  have z : (restB s i false).size = (enc xs.length).length + (4 * xs.length + b.length) := by
    rw [← L_len, R, List.length_append, List.length_append, lbs_len]
  have OK : okA s i false := by
    unfold okA
    rw [N]
    refine ⟨okR_at (by omega), ?_, n64, ?_, ?_⟩
    · show (enc xs.length).length ≠ 0; omega
    · show (enc xs.length).length + 4 * xs.length ≤ _; omega
    · show Nt (lims ((L (restB s i false)).drop (enc xs.length).length) xs.length)
      rw [Q]; exact nt
  rw [readA_some OK, N]
  show some (lims ((L (restB s i false)).drop (enc xs.length).length) xs.length, (enc xs.length).length + 4 * xs.length) = _
  rw [Q, List.length_append, lbs_len]
/-- A natural that is read, anywhere, is one, and lies there as it would be written. -/
theorem readA_there {s : ByteArray} {i k : Nat} {xs : List Nat} (h : readA s i false = some (xs, k)) : natS xs = ((L s).drop i).take k ∧ k = (natS xs).length ∧ Nt xs ∧ Lo xs ∧ i + k ≤ s.size := by
  by_cases c : okA s i false
  · rw [readA_some c] at h
    injection h with h
    injection h with h1 h2
    unfold okA at c
    obtain ⟨c1, c2, c3, c4, c5⟩ := c
    obtain ⟨_, j, hj, hi⟩ := okR_yes c1
    have hji : j = i := by omega
    subst hji
    obtain ⟨e, l⟩ := numOf_yes c2
    have R := restB_L hi
    generalize (numOf (L (restB s j false))).1 = n at *
    generalize (numOf (L (restB s j false))).2 = m at *
    have lx : xs.length = n := by rw [← h1, lims_len]
    have zz : (restB s j false).size = s.size - j := by rw [restB_yes hi, ByteArray.size_extract]; omega
    have fit : 4 * n ≤ ((L (restB s j false)).drop m).length := by rw [List.length_drop, L_len]; omega
    have a := lbs_lims fit
    rw [h1] at a
    have em : (enc n).length = m := by rw [e, List.length_take, L_len]; omega
    refine ⟨?_, ?_, by rw [← h1]; exact c5, by rw [← h1]; exact lims_lo _ _, by omega⟩
    · show enc xs.length ++ lbs xs = _
      rw [lx, a, e, ← R, ← h2, List.take_add]
    · show k = (enc xs.length ++ lbs xs).length
      rw [List.length_append, lbs_len, lx, em, ← h2]
  · rw [readA_none c] at h; cases h
end Go.Proofs.Ytacobmnghdibaaa
namespace Go.Proofs.Ytacobmnghdibaaa
open Go.RowKit
set_option linter.unusedVariables false
set_option linter.unusedSimpArgs false
set_option maxHeartbeats 1000000
set_option maxRecDepth 100000
/-- Block g turns into cs; nothing else that was there turns. -/
structure Tk (g : Nat) (cs : Array Value) (W W' : World) : Prop where
  box : Box W' g cs
  os : W'.os = W.os
  tape : W'.tape = W.tape
  output : W'.output = W.output
  size : W.heap.size ≤ W'.heap.size
  block : ∀ k, k < W.heap.size → k ≠ g → W'.heap[k]? = W.heap[k]?
section
variable {w W W' W'' : World} {g : Nat} {cs ds : Array Value}
theorem Tk.refl (h : Box W g cs) : Tk g cs W W := ⟨h, rfl, rfl, rfl, Nat.le_refl _, fun _ _ _ => rfl⟩
theorem Tk.next (h : Tk g cs W W') (hb : Below W'.heap.size W' W'') : Tk g cs W W'' :=
  ⟨h.box.next hb, hb.os.trans h.os, hb.tape.trans h.tape, hb.output.trans h.output, Nat.le_trans h.size hb.size, fun k hk hn => (hb.block k (Nat.lt_of_lt_of_le hk h.size)).trans (h.block k hk hn)⟩
theorem Tk.trans (h : Tk g cs W W') (h' : Tk g ds W' W'') : Tk g ds W W'' :=
  ⟨h'.box, h'.os.trans h.os, h'.tape.trans h.tape, h'.output.trans h.output, Nat.le_trans h.size h'.size, fun k hk hn => (h'.block k (Nat.lt_of_lt_of_le hk h.size) hn).trans (h.block k hk hn)⟩
theorem Tk.set (h : Tk g cs W W') (i : Nat) (u : Value) : Tk g (cs.setIfInBounds i u) W (W'.setCell ⟨g, i, none⟩ u) :=
  ⟨h.box.set i u, h.os, h.tape, h.output, by rw [show (W'.setCell ⟨g, i, none⟩ u).heap.size = W'.heap.size by simp [World.setCell]]; exact h.size, fun k hk hn => (Below.heap_setCell W' ⟨g, i, none⟩ u k hn).trans (h.block k hk hn)⟩
theorem Tk.drew (h : Tk g cs W W') : Tk g cs W W'.drew := ⟨h.box, h.os, h.tape, h.output, h.size, h.block⟩
theorem Tk.alloc (h : Tk g cs W W') (o : Obj) : Tk g cs W (W'.alloc o) := h.next ((Below.refl _ _).alloc (Nat.le_refl _) o)
theorem Tk.below (h : Tk g cs W W') {B : Nat} (hg : B ≤ g) (hB : B ≤ W.heap.size) : Below B W W' := ⟨h.os, h.tape, h.output, h.size, fun k hk => h.block k (by omega) (by omega)⟩
theorem Tk.pre (hb : Below W.heap.size W W') (h : Tk g cs W' W'') : Tk g cs W W'' :=
  ⟨h.box, h.os.trans hb.os, h.tape.trans hb.tape, h.output.trans hb.output, Nat.le_trans hb.size h.size, fun k hk hn => (h.block k (Nat.lt_of_lt_of_le hk hb.size) hn).trans (hb.block k hk)⟩
theorem Tk.old (h : Tk g cs W W') (hg : W.heap.size ≤ g) : Below W.heap.size W W' := h.below hg (Nat.le_refl _)
theorem Tk.cell (h : Tk g cs W W') {p : Addr} {v : Value} (hp : p.block ≠ g) (hc : W.cell? p = some v) : W'.cell? p = some v := by
  rw [World.cell?_of_block (w := W) (h.block p.block (cell_lt hc) hp)]; exact hc
theorem Box.tk {k : Nat} (h : Box W k ds) (t : Tk g cs W W') (hn : k ≠ g) : Box W' k ds := by
  have l := h.lt
  obtain ⟨x, h⟩ := h
  exact ⟨x, (t.block k l hn).trans h⟩
theorem One.tk (h : One w g ds W) (t : Tk g cs W W') : One w g cs W' := ⟨t.box, h.hg, h.bl.trans (t.below h.hg h.bl.size)⟩
theorem Duo.tk {r : Nat} {es : Array Value} (h : Duo w g r es ds W) (t : Tk r cs W W') : Duo w g r es cs W' :=
  ⟨h.bg.tk t h.ne, t.box, h.ne, h.hg, h.hr, h.bl.trans (t.below h.hr h.bl.size)⟩
theorem Lim.tk {A : Option Addr} {n c : Nat} {xs : List Nat} (h : Lim W A n c xs) (t : Tk g cs W W') (hn : ∀ ad, A = some ad → ad.block ≠ g) : Lim W' A n c xs :=
  ⟨h.len, h.cap, h.top, fun j hj => by
    obtain ⟨ad, e, hc⟩ := h.at_ j hj
    exact ⟨ad, e, t.cell (by rw [block_add]; exact hn ad e) hc⟩, h.lo⟩
end
/-- What a call that finds something missing ends with. -/
abbrev lost8 : List PanicEntry := [{ v := .iface 105 (.agg #[]), recovered := false }]
theorem need_yes (w : World) : Calls Try.prog 71 #[.bool true] w fun e w' => e = .returned (.tuple #[]) ∧ w = w' := by
  go_enter Try.func71, Try.ntmps71
  go_wp2
  go_end0
  exact ⟨rfl, rfl⟩
theorem need_no (w : World) : Calls Try.prog 71 #[.bool false] w fun e w' => e = .panicked lost8 ∧ w = w' := by
  go_enter Try.func71, Try.ntmps71
  go_wp2
  exact ⟨rfl, rfl, rfl⟩
/-- What is taken. -/
theorem take_yes {b : ByteArray} {n g : Nat} {w : World} (h : Box w g #[.string b]) (hn : n ≤ b.size) (hs : b.size ≤ 281474976710656) : Calls Try.prog 70 #[.pointer (some ⟨g, 0, none⟩), .int .i64 (n : Int)] w fun e w' =>
    e = .returned (.string (b.extract 0 n)) ∧ Tk g #[.string (b.extract n b.size)] w w' := by
  have c0 : w.cell? ⟨g, 0, none⟩ = some (.string b) := h.cell rfl
  have m0 := h.melt 0
  have h1 : (n : Int) ≤ b.size := by omega
  have h2 : (0 : Int) ≤ n := by omega
  have h3 : ¬ (b.size : Int) < n := by omega
  have KN := Lib.hid need_yes
  have T := (Tk.refl h).set 0 (.string (b.extract n b.size))
  go_enter Try.func70, Try.ntmps70
  go_wp2_with fail
  refine (KN.out _).mono ?_
  rintro e z ⟨rfl, rfl⟩
  go_wp2_with fail
  go_ret
  exact ⟨rfl, T⟩
theorem take_no {b : ByteArray} {n g : Nat} {w : World} (h : Box w g #[.string b]) (hn : ¬ n ≤ b.size) : Calls Try.prog 70 #[.pointer (some ⟨g, 0, none⟩), .int .i64 (n : Int)] w fun e w' =>
    e = .panicked lost8 ∧ w = w' := by
  have c0 : w.cell? ⟨g, 0, none⟩ = some (.string b) := h.cell rfl
  have m0 := h.melt 0
  have h1 : ¬ (n : Int) ≤ b.size := by omega
  have KN := Lib.hid need_no
  go_enter Try.func70, Try.ntmps70
  go_wp2_with fail
  refine (KN.out _).mono ?_
  rintro e z ⟨rfl, rfl⟩
  go_wp2_with fail
  exact ⟨rfl, rfl, rfl⟩
end Go.Proofs.Ytacobmnghdibaaa
namespace Go.Proofs.Ytacobmnghdibaaa
open Go.RowKit
set_option linter.unusedVariables false
set_option linter.unusedSimpArgs false
set_option maxHeartbeats 1000000
set_option maxRecDepth 100000
abbrev bv8 (b : UInt8) : Value := .int .u8 (b.toNat : Int)
/-- The slice v is just these bytes, in a block from base on; behind them it may be written. -/
def OwnB (W : World) (base : Nat) (v : Value) (l : List UInt8) : Prop :=
  (v = .slice none 0 0 ∧ l = []) ∨ ∃ g cap, v = .slice (some ⟨g, 0, none⟩) l.length cap ∧ base ≤ g ∧ g < W.heap.size ∧ l.length ≤ cap ∧ cap ≤ maxLen ∧
    (∀ (j : Nat) (h : j < l.length), W.cell? ⟨g, j, none⟩ = some (bv8 l[j])) ∧ (∀ j, l.length ≤ j → j < cap → (W.cell? ⟨g, j, none⟩).isSome = true ∧ W.frozen? ⟨g, j, none⟩ = false)
section
variable {W W' : World} {base : Nat} {v : Value} {l : List UInt8}
theorem OwnB.nil (W : World) (base : Nat) : OwnB W base (.slice none 0 0) [] := Or.inl ⟨rfl, rfl⟩
theorem OwnB.next (h : OwnB W base v l) (hb : Below W.heap.size W W') : OwnB W' base v l := by
  rcases h with ⟨a, b⟩ | ⟨g, cap, e, h0, h1, h2, h3, h4, h5⟩
  · exact Or.inl ⟨a, b⟩
  · refine Or.inr ⟨g, cap, e, h0, Nat.lt_of_lt_of_le h1 hb.size, h2, h3, fun j hj => keep_cell hb (h4 j hj), fun j a b => ?_⟩
    obtain ⟨c, d⟩ := h5 j a b
    rw [hb.cell (p := ⟨g, j, none⟩) h1, hb.frozen (p := ⟨g, j, none⟩) h1]
    exact ⟨c, d⟩
theorem OwnB.drew (h : OwnB W base v l) : OwnB W.drew base v l := h.next (Below.refl _ _).drew
theorem OwnB.alloc (h : OwnB W base v l) (o : Obj) : OwnB (W.alloc o) base v l := h.next ((Below.refl _ _).alloc (Nat.le_refl _) o)
theorem OwnB.conv (h : OwnB W base v l) : (convert 65 9 v).run Try.prog W = .ok (.string (bs l)) W := by
  rcases h with ⟨rfl, rfl⟩ | ⟨g, cap, rfl, _, _, _, _, h4, _⟩
  · exact run_convert_bytes_string W 65 9 5 none 0 0 Try.underlying65 Try.underlying5 Try.underlying9
  · exact run_convert_bytes_back W 65 9 5 ⟨g, 0, none⟩ cap l Try.underlying65 Try.underlying5 Try.underlying9 (fun j hj => by
      have : (⟨g, 0, none⟩ : Addr).add j = ⟨g, j, none⟩ := by unfold Addr.add; split <;> simp_all
      rw [this]; exact h4 j hj)
/-- What is owned in the library's sense is owned in this. -/
theorem OwnB.of_own (h : W.ownsRow base 5 1 v l.length (l.map bv8)) : OwnB W base v l := by
  rcases h.2 with ⟨rfl, e⟩ | ⟨g, cap, cur, rfl, hb, h1, h2, h3, h4, h5⟩
  · exact Or.inl ⟨rfl, List.eq_nil_of_length_eq_zero e⟩
  · rw [Nat.mul_one] at h4 h5
    refine Or.inr ⟨g, cap, rfl, hb, (Array.getElem?_eq_some_iff.1 h1).1, h2, h3, fun j hj => ?_, fun j a b => ?_⟩
    · have e : cur[j]? = some (bv8 l[j]) := by
        have : (cur.toList.take l.length)[j]? = some (bv8 l[j]) := by rw [h5]; simp [hj]
        rw [List.getElem?_take, if_pos hj] at this
        simpa using this
      simp [World.cell?, h1, e]
    · have hj : j < cur.size := by omega
      constructor
      · simp [World.cell?, h1, hj]
      · simp [World.frozen?, h1]
theorem info_u8 : (Try.prog.info? 5).map (fun i => (i.zero, i.size, i.bytes)) = some (some (.int .u8 0), 1, 1) := by kernel_rfl
/-- One byte more. -/
theorem run_appendB (h : OwnB W base v l) (hbase : base ≤ W.heap.size) (b : UInt8) {ad : Addr} {c : Nat} (ha : W.cell? (ad.add 0) = some (bv8 b)) (hs : l.length ≤ 1099511627776) :
    ∃ v' w', (Builtin.append_ #[65, 65] 65 #[v, .slice (some ad) 1 c]).run Try.prog W = .ok v' w' ∧ OwnB w' base v' (l ++ [b]) ∧ Below base W w' := by
  obtain ⟨i0, hi, hz0, hz1, hz2⟩ := info_parts info_u8
  have hnews : ∀ j u, ([bv8 b] : List Value)[j]? = some u → W.cell? (ad.add j) = some u := by
    intro j u hj
    cases j with
    | zero => simp at hj; rw [← hj]; exact ha
    | succ j => simp at hj
  have hbig : l.length + 1 ≤ maxLen := by unfold maxLen; omega
  by_cases hr : ∃ g cap, v = .slice (some ⟨g, 0, none⟩) l.length cap ∧ base ≤ g ∧ g < W.heap.size ∧ l.length + 1 ≤ cap ∧ cap ≤ maxLen ∧
    (∀ (j : Nat) (h : j < l.length), W.cell? ⟨g, j, none⟩ = some (bv8 l[j])) ∧ (∀ j, l.length ≤ j → j < cap → (W.cell? ⟨g, j, none⟩).isSome = true ∧ W.frozen? ⟨g, j, none⟩ = false)
  · obtain ⟨g, cap, rfl, h0, h1, h2, h3, h4, h5⟩ := hr
    have R := run_append_room_cells (P := Try.prog) W 65 65 5 i0 Try.underlying65 hi g 0 l.length cap ad 1 c [bv8 b] (by rw [hz1]; rfl) hnews (by intro u hu; rw [List.mem_singleton] at hu; rw [hu]; rfl) h2
      (fun j hj => by
        have : j = 0 := by simpa using hj
        subst this
        rw [hz1, show 0 + l.length * 1 + 0 = l.length by omega]
        exact (h5 _ (Nat.le_refl _) (by omega)).1)
      (fun j hj => by
        have : j = 0 := by simpa using hj
        subst this
        rw [hz1, show 0 + l.length * 1 + 0 = l.length by omega]
        exact (h5 _ (Nat.le_refl _) (by omega)).2)
    rw [hz1, show 0 + l.length * 1 = l.length by omega, show W.setCells g l.length [bv8 b] = W.setCell ⟨g, l.length, none⟩ (bv8 b) from rfl] at R
    refine ⟨_, _, R, Or.inr ⟨g, cap, by simp, h0, by simpa [World.setCell] using h1, by simp; omega, h3, fun j hj => ?_, fun j a b' => ?_⟩, below_set (Below.refl _ _) h0 _⟩
    · by_cases e : j = l.length
      · subst e
        have s := (h5 l.length (Nat.le_refl _) (by omega)).1
        obtain ⟨x, hx⟩ := Option.isSome_iff_exists.1 s
        rw [World.cell?_setCell_same _ _ _ hx]
        simp
      · have lt : j < l.length := by simp at hj; omega
        rw [World.cell?_setCell_other _ _ _ _ (fun k => e (by cases k; rfl)), h4 j lt, List.getElem_append_left lt]
    · have lt : l.length < j := by simp at a; omega
      rw [World.cell?_setCell_other _ _ _ _ (fun k => by cases k; omega), World.frozen?_setCell]
      exact h5 j (by omega) b'
  · have grown : ∀ v2 w2, w2.ownsRow W.heap.size 5 1 v2 (l.length + 1) (l.map bv8 ++ [bv8 b]) → W.grownBy w2 none → OwnB w2 base v2 (l ++ [b]) ∧ Below base W w2 := by
      intro v2 w2 ho hg
      have O : OwnB w2 W.heap.size v2 (l ++ [b]) := OwnB.of_own (by rw [List.length_append, List.map_append]; exact ho)
      refine ⟨?_, (Below.refl base W).grown hg hbase (fun k hk => by cases hk)⟩
      rcases O with x | ⟨g, cap, e, a, r⟩
      · exact Or.inl x
      · exact Or.inr ⟨g, cap, e, Nat.le_trans hbase a, r⟩
    rcases h with ⟨rfl, rfl⟩ | ⟨g, cap, rfl, h0, h1, h2, h3, h4, h5⟩
    · have ⟨v2, w2, r, o, gr, _⟩ := run_append_own (P := Try.prog) W W.heap.size 65 65 5 i0 (.int .u8 0) 1 1 Try.underlying65 hi hz0 hz1 hz2 rfl (by decide) (.slice none 0 0) 0 [] (World.ownsRow_nil _ _ _ _) ad 1 c [bv8 b] rfl hnews (by intro u hu; rw [List.mem_singleton] at hu; rw [hu]; rfl) (by unfold maxLen; omega) (by omega) (Nat.le_refl _)
      exact ⟨v2, w2, r, grown v2 w2 o gr⟩
    · have nr : cap < l.length + 1 := by
        apply Decidable.byContradiction
        intro k
        exact hr ⟨g, cap, rfl, h0, h1, by omega, h3, h4, h5⟩
      obtain ⟨v2, w2, r, o, gr⟩ := run_append_arg_grows (P := Try.prog) W 65 65 5 i0 (.int .u8 0) 1 1 Try.underlying65 hi hz0 hz1 hz2 rfl (by decide) ⟨g, 0, none⟩ l.length cap (l.map bv8) (by simp)
        (fun j u hj => by
          have hj2 : j < l.length := by
            have := (List.getElem?_eq_some_iff.1 hj).1
            simpa using this
          have : (⟨g, 0, none⟩ : Addr).add j = ⟨g, j, none⟩ := by unfold Addr.add; split <;> simp_all
          rw [this, h4 j hj2]
          simp [hj2] at hj
          rw [← hj])
        ad 1 c [bv8 b] rfl hnews nr hbig (by omega)
      exact ⟨v2, w2, r, grown v2 w2 o gr⟩
end
/-- .. for the walk. -/
theorem wpList_appendB {ops : Array Oper} {rest : List Oper} {o : Oper} {a : Act} {Q : Exit → Act → World → Prop} (W : World) (hgd : o.guard = none) (s x : Operand)
    (ho : o.op = .call { callee := .builtin .append, args := #[s, x], argTypes := #[65, 65] }) (hty : o.type = 65) (base : Nat) {v : Value} {l : List UInt8} (hs : a.eval s = v) (h : OwnB W base v l) (hbase : base ≤ W.heap.size) (b : UInt8)
    {ad : Addr} {c : Nat} (hx : a.eval x = .slice (some ad) 1 c) (ha : W.cell? (ad.add 0) = some (bv8 b)) (hl : l.length ≤ 1099511627776)
    (hK : ∀ v' w', OwnB w' base v' (l ++ [b]) → Below base W w' → wpList Try.prog ops Q rest (a.put o.dst v') w') : wpList Try.prog ops Q (o :: rest) a W := by
  refine wpList_plain hgd fun K hK' => ?_
  obtain ⟨v', w', hrun, r1, r2⟩ := run_appendB h hbase b ha hl
  unfold Oper.wp execOp
  simp only [ho, hty, resolve, invoke, builtin, Sem.run_bind, Sem.run_pure, Result.andThen_ok, List.map_toArray, List.map_cons, List.map_nil, hs, hx]
  erw [hrun]
  exact hK' _ _ (hK v' w' r1 r2)
end Go.Proofs.Ytacobmnghdibaaa
