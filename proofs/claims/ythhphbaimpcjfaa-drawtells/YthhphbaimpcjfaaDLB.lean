/- The walk of BelowNat: its loop. -/
import Derived.Test.YthhphbaimpcjfaaDL
namespace Go.Proofs.Ythhphbaimpcjfaa
open Go.RowKit
set_option linter.unusedVariables false
set_option linter.unusedSimpArgs false
set_option maxHeartbeats 4000000
set_option maxRecDepth 100000
theorem Wl.drop {w : World} {A : Option Addr} {n c : Nat} {W : List Nat} (h : Wl w A n c W) {i : Nat} (hi : i ≤ n) : Wl w (A.map (fun a => a.add i)) (n - i) (c - i) (W.drop i) :=
  ⟨by rw [List.length_drop, h.len], by have := h.cap; omega, by have := h.top; omega, fun j hj => by
    have hj' : i + j < W.length := by simp at hj; omega
    obtain ⟨ad, e, hc⟩ := h.at_ (i + j) hj'
    refine ⟨ad.add i, by rw [e]; rfl, ?_⟩
    rw [List.getElem_drop, ← hc]
    congr 1
    simp only [Addr.add]
    split <;> split <;> split <;> simp_all <;> omega, h.lo.drop i⟩
theorem Wl.drop0 {w : World} {A : Option Addr} {n c : Nat} {W : List Nat} (h : Wl w A n c W) {m : Nat} (hm : m = 0) : Wl w A m 0 (W.drop n) := by
  subst hm
  rw [List.drop_of_length_le (by rw [h.len]; exact Nat.le_refl _)]
  exact Wl.none_ w A 0 (by decide)
theorem Wl.block_lt {w : World} {A : Option Addr} {n c : Nat} {W : List Nat} (h : Wl w A n c W) (hn : 0 < n) {ad : Addr} (e : A = some ad) : ad.block < w.heap.size := by
  obtain ⟨ad', e', hc⟩ := h.at_ 0 (by rw [h.len]; exact hn)
  rw [e] at e'
  injection e' with e'
  subst e'
  have := cell_lt hc
  rwa [block_add] at this
theorem Two.turn {w W W' : World} {g r q : Nat} {cs ds : Array Value} (h : Two w g r cs ds W) (t : Turn W W' q) (h1 : g ≠ q) (h2 : r ≠ q) (h3 : w.heap.size ≤ q) : Two w g r cs ds W' := by
  obtain ⟨⟨t1, b1⟩, ⟨t2, b2⟩, h4, h5, h6, h7⟩ := h
  exact ⟨⟨t1, (t.block _ h1).trans b1⟩, ⟨t2, (t.block _ h2).trans b2⟩, h4, h5, h6, h7.trans (t.below h3)⟩
theorem att_zero (W : List Nat) (c p : Nat) : att W c 0 p = 0 := by unfold att; rw [Nat.pow_zero, Nat.mod_one]
theorem mw_pos {d : Nat} (h : 1 < d) : 0 < mw d := by
  have := mb_pos h
  unfold mw; omega
theorem belowNat_many {A Ab : Option Addr} {n c nb cb d i0 : Nat} {W0 : List Nat} {w : World} (HW : Wl w A n c W0) (HB : Lim w Ab nb cb (limbs d)) (ld : ln d ≤ 64) (hd : d ≠ 0) (hi0 : i0 ≤ n) (hyp : 1 < d ∨ d = 1 ∧ i0 < c) :
    Calls Try.prog 14 #[wds A n c (i0 : Int), .slice Ab nb cb] w fun e w' => RetB A n c (ans W0 (i0 : Int) d) w e w' := by
  have hn : n ≤ 9223372036854775807 := Nat.le_trans HW.cap HW.top
  have KN : Hid (∀ W : World, Below w.heap.size w W → Calls Try.prog 26 #[.slice Ab nb cb] W fun e w' => e = .returned (.bool true) ∧ W = w') := fun W hb => right_yes (HB.next hb) ld
  have KR := Lib.hid (fun W => dright_any A n c (i0 : Int) hn W)
  have E := Lib.hid (okB_yes (p := (i0 : Int)) (n := n) ⟨by omega, by omega⟩)
  have KM : Hid (∀ W : World, Below w.heap.size w W → Calls Try.prog 27 #[.slice Ab nb cb] W fun e w' => ∃ g, e = .returned (.slice (some ⟨g, 0, none⟩) (ml d) (ml d)) ∧ W.heap.size ≤ g ∧ Row w' g (mskl (mb d) (ml d)) ∧ Below W.heap.size W w') := fun W hb => maskOf_any (HB.next hb) hd ld
  have hml := ml_le ld
  have KC : Hid (∀ (W : World) A1 n1 c1 v, Below w.heap.size w W → Lim W A1 n1 c1 (limbs v) → ln v ≤ 64 → Calls Try.prog 31 #[.slice A1 n1 c1, .slice Ab nb cb] W fun e w' => e = .returned (.int .i64 (sgn v d)) ∧ ∃ m, w' = W.drewN m) := fun W A1 n1 c1 v hb h1 h2 => cmp_any h1 (HB.next hb) h2 ld
  have hz : ((nb : Int) == 0) = false := by
    have := ln_pos hd
    have := HB.len
    rw [limbs_length] at this
    simp; omega
  have hmk := make_u32 (ml d) (by omega)
  have EC : Hid ((ml d + 1) / 2 = mw d) := mw_ml d
  have KW := Lib.hid (fun (A1 : Option Addr) (W : World) => wordsOf_any A1 (ml d) (ml d) (by omega) W)
  rw [EC.out] at KW
  have HML : Hid (ml d = (mb d + 31) / 32) := rfl
  have HMW : Hid (mb d ≤ 64 * mw d) := by unfold Hid mw; omega
  have HN : Hid (W0.length = n) := HW.len
  have HD := Lib.hid hd
  have hmw : mw d ≤ 64 := by rw [← EC.out]; omega
  have FIN : Hid (∀ i, tries W0 (mw d) (mb d) d i = tries W0 (mw d) (mb d) d i0 → ∀ v q, tries W0 (mw d) (mb d) d i = some (v, q) → ans W0 (i0 : Int) d = (v, (q : Int), 0)) := by
    intro i h v q hv
    exact ans_hit hd (by rw [HN.out]; exact hi0) (by rw [← h, hv])
  have DRY : Hid (∀ i, tries W0 (mw d) (mb d) d i = tries W0 (mw d) (mb d) d i0 → ¬ i + mw d ≤ n → ans W0 (i0 : Int) d = (0, (i0 : Int), 8)) := by
    intro i h k
    refine ans_dry hd (by rw [HN.out]; exact hi0) ?_
    rw [← h]
    exact tries_dry (by rw [HN.out]; exact k)
  have HW := Lib.hid HW
  clear HB ld hd
  obtain ⟨p, hp⟩ : ∃ p : Int, p = (i0 : Int) := ⟨_, rfl⟩
  rw [← hp] at KR E FIN DRY ⊢
  have HP := Lib.hid hp
  clear hp
  obtain ⟨g, hg⟩ : ∃ g, w.heap.size = g := ⟨_, rfl⟩
  have M := Two.new w #[.slice A n c, .int .i64 p] #[.slice none 0 0, .int .i64 0] 28 28
  rw [hg] at M
  go_enter Try.func14, Try.ntmps14
  go_wp2_with fail
  clear hg
  generalize (w.alloc (Obj.cells #[Value.slice A n c, Value.int IntKind.i64 p] 28)).alloc (Obj.cells #[Value.slice none 0 0, Value.int IntKind.i64 0] 28) = W at *
  generalize g + 1 = r at *
  refine (KN.out W M.bl).mono ?_
  rintro e W1 ⟨rfl, rfl⟩
  obtain ⟨c0, c1⟩ := M.bg.two
  obtain ⟨k0, k1⟩ := M.br.two
  have m0 := M.br.melt 0; have m1 := M.br.melt 1
  go_wp2_with fail
  clear c0 c1 k0 k1 m0 m1
  refine (KR.out W).mono ?_
  rw [E.out]
  rintro e W1 ⟨rfl, B1⟩
  replace M := M.next B1
  have BB := Lib.hid B1
  clear B1
  obtain ⟨c0, c1⟩ := M.bg.two
  obtain ⟨k0, k1⟩ := M.br.two
  have m0 := M.br.melt 0; have m1 := M.br.melt 1
  go_wp2_with fail
  clear c0 c1 k0 k1 m0 m1
  refine (KM.out W1 M.bl).mono ?_
  rintro e W2 ⟨gm, rfl, hgm, RM, B2⟩
  have hgm2 : g < gm ∧ r < gm := ⟨Nat.lt_of_lt_of_le M.bg.lt hgm, Nat.lt_of_lt_of_le M.br.lt hgm⟩
  replace M := M.next B2
  clear B2 hgm
  obtain ⟨c0, c1⟩ := M.bg.two
  obtain ⟨k0, k1⟩ := M.br.two
  have m0 := M.br.melt 0; have m1 := M.br.melt 1
  go_wp2_with fail
  refine (KW.out _ _).mono ?_
  rintro e w' ⟨rfl, rfl⟩
  go_upto_region 10 with fail
  clear c0 c1 k0 k1 m0 m1
  have G2 : gm < W2.heap.size := RM.lt
  have R0 := Row.zeros W2 (ml d)
  have BA : Below W2.heap.size W2 (W2.alloc (zrow (ml d))) := (Below.refl _ _).alloc (Nat.le_refl _) _
  have GB : w.heap.size ≤ W2.heap.size := M.bl.size
  replace M := M.next BA
  replace RM := RM.next BA
  clear BA
  generalize W2.alloc (zrow (ml d)) = W3 at *
  generalize W2.heap.size = g2 at *
  have LM := RM.lim (o := 0) (n := ml d) (c := ml d) (by rw [mskl_len]; omega) (Nat.le_refl _) (by omega)
  rw [List.drop_zero, List.take_of_length_le (by rw [mskl_len]; exact Nat.le_refl _)] at LM
  have LM := Lib.hid LM; have GB := Lib.hid GB; have G2 := Lib.hid G2; have HG := Lib.hid hgm2; have M3 := Lib.hid M
  have HW3 := Lib.hid (HW.out.next M.bl)
  have AW : Hid (∀ ad, A = some ad → 0 < n → ad.block < g2) := fun ad e k => Nat.lt_of_lt_of_le (HW.out.block_lt k e) GB.out
  clear RM hgm2
  obtain ⟨z0, hz0, R0⟩ : ∃ z0, Hid (z0.length = ml d) ∧ Row W3 g2 z0 := ⟨_, by unfold Hid; simp, R0⟩
  obtain ⟨c0, c1⟩ := M.bg.two
  obtain ⟨k0, k1⟩ := M.br.two
  have m0 := M.br.melt 0; have m1 := M.br.melt 1
  go_wp2_with fail
  clear c0 c1 k0 k1 m0 m1
  clear M
  go_loopg [10] (n - i0) (fun q s10 wr => ∃ (i : Nat) (zs : List Nat), i + q = n ∧ i0 ≤ i ∧ Hid (d = 1 → i = i0) ∧ s10 = .int .i64 (i : Int) ∧ Hid (tries W0 (mw d) (mb d) d i = tries W0 (mw d) (mb d) d i0) ∧ Hid (zs.length = ml d) ∧ Row wr g2 zs ∧ Turn W3 wr g2)
  case atStart => exact ⟨i0, z0, by omega, Nat.le_refl _, fun _ => rfl, by rw [HP.out], rfl, hz0, R0, Turn.refl _ _⟩
  case round =>
    clear R0 hz0 z0
    obtain ⟨i, zs, hq, hii, hone, rfl, ht, hzs, R, T⟩ := hrel
    have HQ := Lib.hid hq
    have M := M3.out.turn T (by have := HG.out; have := G2.out; omega) (by have := HG.out; have := G2.out; omega) GB.out
    by_cases lt : i + mw d ≤ n
    · have il : ((mw d : Nat) : Int) ≤ (n : Int) - (i : Int) := by omega
      have il0 : (0 : Int) ≤ i := by omega
      have il1 : (i : Int) ≤ n := by omega
      have hci : i < c := by
        have := HW.out.cap
        rcases hyp with h | h
        · have := mw_pos h; omega
        · rw [hone.out h.1]; exact h.2
      have il2 : (i : Int) < c := by omega
      have il3 : ¬ c = i := by omega
      have WL := Lib.hid ((turn_wl T HW3.out (fun ad e k => Nat.ne_of_lt (AW.out ad e k))).drop (i := i) (by omega))
      have NW : Hid (∀ ad, A.map (fun a => a.add i) = some ad → 0 < n - i → ad.block ≠ g2) := by
        intro ad e k
        cases A with
        | none => cases e
        | some a =>
          injection e with e
          subst e
          have := AW.out a rfl (by omega)
          rw [block_add]; omega
      have KF : Hid (∀ (A1 : Option Addr) (n1 c1 : Nat), Hid (n1 = n - i) → Wl wr A1 n1 c1 (W0.drop i) → (∀ ad, A1 = some ad → 0 < n1 → ad.block ≠ g2) → Calls Try.prog 29 #[.slice (some ⟨g2, 0, none⟩) (ml d) (ml d), .slice (some ⟨gm, 0, none⟩) (ml d) (ml d), .slice A1 n1 c1] wr fun e w' => e = .returned (.tuple #[]) ∧ ∃ ss, ss.length = ml d ∧ Lo ss ∧ val ss = wv (W0.drop i) % 2 ^ mb d ∧ Row w' g2 ss ∧ Turn wr w' g2) := by
        intro A1 n1 c1 e1 h1 h2
        refine fill_any R hzs.out (turn_lim T LM.out ?_) ?_ h1 h2 ?_ HML.out hml
        · intro ad e _
          injection e with e
          subst e
          exact Nat.ne_of_lt G2.out
        · intro ad e _
          injection e with e
          subst e
          exact Nat.ne_of_lt G2.out
        · rw [EC.out, e1.out]; omega
      have AT : Hid (att W0 (mw d) (mb d) i = wv (W0.drop i) % 2 ^ mb d) := att_all HMW.out (by rw [HN.out]; exact lt)
      have hT := Lib.hid T
      have hid_le : Hid (i ≤ n) := by unfold Hid; omega
      clear R T hzs
      by_cases l : att W0 (mw d) (mb d) i < d
      · have TE := Lib.hid (FIN.out i ht.out _ _ (tries_hit (by rw [HN.out]; exact lt) l))
        have EL := Lib.hid (sgn_lt l)
        clear l ht hq
        obtain ⟨c0, c1⟩ := M.bg.two
        obtain ⟨k0, k1⟩ := M.br.two
        have m0 := M.br.melt 0; have m1 := M.br.melt 1
        go_wp2_with fail
        clear c0 c1 k0 k1 m0 m1
        refine (KF.out _ _ _ rfl WL.out NW.out).mono ?_
        rintro e w4 ⟨rfl, ss, sl, slo, sv, RS, TS⟩
        rw [← AT.out] at sv
        have T4 := hT.out.trans TS
        have M4 := M3.out.turn T4 (by have := HG.out; have := G2.out; omega) (by have := HG.out; have := G2.out; omega) GB.out
        have SL := RS.lim (o := 0) (n := ml d) (c := ml d) (by omega) (Nat.le_refl _) (by omega)
        rw [List.drop_zero, List.take_of_length_le (by omega)] at SL
        have LV : Hid (ln (val ss) ≤ 64) := Nat.le_trans (ln_val slo) (by rw [sl]; exact hml)
        have KT := Lib.hid (dtrim_at SL)
        obtain ⟨c0, c1⟩ := M4.bg.two
        go_wp2_with fail
        refine KT.out.mono ?_
        rintro e w5 ⟨A5, n5, c5, rfl, L5, F5, rfl⟩
        go_wp2_with fail
        refine (KC.out _ _ _ _ _ M4.bl L5 LV.out).mono ?_
        rintro e w5 ⟨rfl, m, rfl⟩
        rw [sv] at L5 ⊢
        rw [EL.out]
        have T5 := T4.drewN m
        replace L5 := L5.drewN m
        replace M := M4.next (below_drewN (Below.refl _ _) m)
        have RS5 := RS.drewN m
        have SL5 := Lib.hid sl
        clear M4 T4 TS KT SL RS c0 c1 sl slo sv
        generalize w4.drewN m = w6 at *
        obtain ⟨c0, c1⟩ := M.bg.two
        obtain ⟨k0, k1⟩ := M.br.two
        have m0 := M.br.melt 0; have m1 := M.br.melt 1
        go_wp2_with fail
        go_region
        all_goals go_wp2_with fail
        clear c0 c1 k0 k1 m0 m1
        have TR : Turn w6 (((w6.setCell ⟨r, 0, none⟩ (.slice A n c)).setCell ⟨r, 1, none⟩ (.int .i64 ((i : Int) + (mw d : Int)))).drew) r := ((((Turn.refl w6 r).setCell 0 _).setCell 1 _).drew)
        have L9 := turn_lim TR L5 (fun ad e _ => by have e2 := F5 ad e; injection e2 with e2; subst e2; have := HG.out; have := G2.out; show g2 ≠ r; omega)
        clear TR
        replace M := (M.put2 (.slice A n c) (.int .i64 ((i : Int) + (mw d : Int)))).drew
        generalize ((w6.setCell ⟨r, 0, none⟩ (.slice A n c)).setCell ⟨r, 1, none⟩ (.int .i64 ((i : Int) + (mw d : Int)))).drew = W9 at *
        obtain ⟨z0, z1⟩ := M.br.two
        refine bodyPost_ret (v := .tuple #[.slice A5 n5 c5, .agg #[.slice A n c, (.int .i64 ((i : Int) + (mw d : Int)))], .int .i64 0]) (by simp [results, Try.results14, go_sem, z0, z1]) rfl ?_
        exact retB_some TE.out M.bl L9
      · have D1 : Hid (d ≠ 1) := by
          intro e
          subst e
          rw [mb_one, att_zero] at l
          exact l (by decide)
        have MP : Hid (0 < mw d) := mw_pos (by have := D1.out; have := HD.out; omega)
        have T : Hid (tries W0 (mw d) (mb d) d (i + mw d) = tries W0 (mw d) (mb d) d i0) := by
          unfold Hid
          rw [← ht.out]
          exact (tries_next (by rw [HN.out]; exact lt) l MP.out).symm
        have EG : Hid (¬ sgn (att W0 (mw d) (mb d) i) d < 0) := by
          unfold Hid
          by_cases e : att W0 (mw d) (mb d) i = d
          · rw [e, sgn_eq]; decide
          · rw [sgn_gt (by omega)]; decide
        have LT := Lib.hid lt
        clear l ht hq
        obtain ⟨c0, c1⟩ := M.bg.two
        obtain ⟨k0, k1⟩ := M.br.two
        have m0 := M.br.melt 0; have m1 := M.br.melt 1
        go_wp2_with fail
        clear c0 c1 k0 k1 m0 m1
        refine (KF.out _ _ _ rfl WL.out NW.out).mono ?_
        rintro e w4 ⟨rfl, ss, sl, slo, sv, RS, TS⟩
        rw [← AT.out] at sv
        have T4 := hT.out.trans TS
        have M4 := M3.out.turn T4 (by have := HG.out; have := G2.out; omega) (by have := HG.out; have := G2.out; omega) GB.out
        have SL := RS.lim (o := 0) (n := ml d) (c := ml d) (by omega) (Nat.le_refl _) (by omega)
        rw [List.drop_zero, List.take_of_length_le (by omega)] at SL
        have LV : Hid (ln (val ss) ≤ 64) := Nat.le_trans (ln_val slo) (by rw [sl]; exact hml)
        have KT := Lib.hid (dtrim_at SL)
        obtain ⟨c0, c1⟩ := M4.bg.two
        go_wp2_with fail
        refine KT.out.mono ?_
        rintro e w5 ⟨A5, n5, c5, rfl, L5, F5, rfl⟩
        go_wp2_with fail
        refine (KC.out _ _ _ _ _ M4.bl L5 LV.out).mono ?_
        rintro e w5 ⟨rfl, m, rfl⟩
        rw [sv] at L5 ⊢
        have EL := EG.out
        have T5 := T4.drewN m
        replace L5 := L5.drewN m
        replace M := M4.next (below_drewN (Below.refl _ _) m)
        have RS5 := RS.drewN m
        have SL5 := Lib.hid sl
        clear M4 T4 TS KT SL RS c0 c1 sl slo sv
        generalize w4.drewN m = w6 at *
        go_wp2_with fail
        clear M
        go_roundg (gk - mw d)
        case measure => have := HQ.out; have := MP.out; have := LT.out; omega
        case rel =>
          go_light
          refine ⟨i + mw d, ss, by have := HQ.out; have := LT.out; omega, by omega, fun e => absurd e D1.out, by go_num, T.out, SL5, RS5, T5⟩
    · have il : ¬ ((mw d : Nat) : Int) ≤ (n : Int) - (i : Int) := by omega
      have TE := Lib.hid (DRY.out i ht.out lt)
      have BT := M.bl
      clear lt ht R T
      obtain ⟨c0, c1⟩ := M.bg.two
      obtain ⟨k0, k1⟩ := M.br.two
      have m0 := M.br.melt 0; have m1 := M.br.melt 1
      go_wp2_with fail
      go_region
      all_goals go_wp2_with fail
      clear c0 c1 k0 k1 m0 m1
      replace M := (M.put2 (.slice A n c) (.int .i64 p)).drew
      generalize ((wr.setCell ⟨r, 0, none⟩ (.slice A n c)).setCell ⟨r, 1, none⟩ (.int .i64 p)).drew = W9 at *
      obtain ⟨z0, z1⟩ := M.br.two
      refine bodyPost_ret (v := .tuple #[.slice none 0 0, .agg #[.slice A n c, (.int .i64 p)], .int .i64 8]) (by simp [results, Try.results14, go_sem, z0, z1]) rfl ?_
      exact by rw [TE.out]; exact retB_none M.bl
end Go.Proofs.Ythhphbaimpcjfaa
