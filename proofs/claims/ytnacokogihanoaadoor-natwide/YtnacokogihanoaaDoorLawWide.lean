/- For every two numbers of 128 bits the law NatWide answers true: as a natural each has as many bits as that needs, the same text and order, and the same sums and products, as long as they fit. No condition beyond the row; the tables of unicode/utf8 start as the program lays them (tied). -/
import Derived.Test.YtnacokogihanoaaDoorBase
import Derived.Test.YtnacokogihanoaaDoorNumL
import Derived.Test.YtnacokogihanoaaDoorWWalkB
import Derived.Test.YtnacokogihanoaaDoorWWalkI
namespace Go.Proofs.YtnacokogihanoaaDoor.natWide
open Go.ChangeShapes Go.WideShapes Go.ChangeAt Go.RowKit
open Go.Proofs.YtnacokogihanoaaDoor
set_option linter.unusedVariables false
set_option linter.unusedSimpArgs false

theorem below_al {w W : World} (h : Below w.heap.size w W) (o : Obj) : Below w.heap.size w (W.alloc o) := h.alloc h.size o
theorem keep_drew {w : World} {p : Addr} {v : Value} (h : w.cell? p = some v) : w.drew.cell? p = some v := h
theorem same_yes {A A' : Option Addr} {n c n' c' : Nat} {xs : List Nat} {w : World} (ha : Lim w A n c xs) (hb : Lim w A' n' c' xs) : Calls Tryd.prog 22 #[.slice A n c, .slice A' n' c'] w fun e w' => e = .returned (.bool true) ∧ Below w.heap.size w w' := by
  have := same_bel ha hb
  rwa [sameB_yes] at this
theorem cells_wide : Tryd.prog.cellsOf 26 = 2 := by kernel_rfl
theorem readable_wide : Tryd.prog.readableRec 26 = true := by kernel_rfl
theorem typed_wide : 26 < Tryd.prog.types.size := of_decide_eq_true (by kernel_rfl)
set_option maxRecDepth 100000 in
/-- An argument that is two words, opened. -/
theorem open_wide {H : Type} {enc : TypeId × Value → H} {W : World} {base : Nat} {v : Value} {d : DataW H} {p : List MemPlace} (hv : Value.okWide Tryd.prog W .any base 26 v)
    (h : DataW.Trod enc Tryd.prog W 0 (fun _ => true) true 26 v d p) : ∃ h l : Nat, v = .agg #[.int .u64 (h : Int), .int .u64 (l : Int)] ∧ h < 18446744073709551616 ∧ l < 18446744073709551616 := by
  obtain ⟨c0, c1, y0, y1, m, rfl, rfl, rfl, hy0, hy1⟩ := Go.Joins.open_agg2 Tryd.underlying26 (by kernel_rfl) cells_wide hv h
  obtain ⟨a, e0, rfl, wa⟩ := DataW.trod_int Tryd.underlying24 hy0
  obtain ⟨b, e1, rfl, wb⟩ := DataW.trod_int Tryd.underlying24 hy1
  simp at e0 e1
  subst e0 e1
  have ha := bounds_u64 wa
  have hb := bounds_u64 wb
  refine ⟨a.toNat, b.toNat, ?_, by omega, by omega⟩
  rw [show ((a.toNat : Nat) : Int) = a by omega, show ((b.toNat : Nat) : Int) = b by omega]

theorem dig_same (d : Nat) (h : d < 10) : Wd.dig d = dig d := by unfold Wd.dig dig; rfl
theorem textF_same : ∀ (f m : Nat), m < 10 ^ f → Wd.textF f m = ((tens m).map dig).reverse
  | 0, m, h => by
    obtain rfl : m = 0 := by simpa using h
    rw [tens_zero]; rfl
  | f + 1, m, h => by
    by_cases z : m = 0
    · subst z; rw [tens_zero, Wd.textF_zero]; rfl
    · rw [Wd.textF_succ z, textF_same f (m / 10) (Wd.div_lt_ten h), tens_pos z, List.map_cons, List.reverse_cons, dig_same _ (Nat.mod_lt _ (by decide))]
theorem text_same (n : Nat) (h : n < 340282366920938463463374607431768211456) : Wd.text n = dtext n := by
  rw [Wd.text_eq, textF_same 38 (n / 10) (Wd.div_lt_ten (j := 38) (by omega)), dig_same _ (Nat.mod_lt _ (by decide))]
  by_cases z : n = 0
  · subst z; rw [dtext_zero, tens_zero]; rfl
  · rw [dtext_pos z, tens_pos z, List.map_cons, List.reverse_cons]
theorem sgn_same (a b : Nat) : Wd.sgn a b = sgn a b := by unfold Wd.sgn sgn; rfl
theorem fits_iff (n : Nat) : Wd.Fits n ↔ n < 340282366920938463463374607431768211456 := by unfold Wd.Fits; rfl
theorem U_words (n : Nat) : Wd.U n = .agg #[.int .u64 ((n / 18446744073709551616 : Nat) : Int), .int .u64 ((n % 18446744073709551616 : Nat) : Int)] := by unfold Wd.U Wd.hi Wd.lo; rfl
theorem fromU {n : Nat} (h : Wd.Fits n) (w : World) : Calls Tryd.prog 24 #[Wd.U n] w fun e w' => RetN n w e w' := by
  have h := (fits_iff n).1 h
  have := from_any (n / 18446744073709551616) (n % 18446744073709551616) (by omega) (Nat.mod_lt _ (by decide)) w
  rw [show n / 18446744073709551616 * 18446744073709551616 + n % 18446744073709551616 = n by omega] at this
  rw [U_words]; exact this
theorem wcmp (a b : Nat) (w : World) : Calls Tryd.prog 32 #[Wd.U a, Wd.U b] w fun e w' => e = .returned (.int .i64 (sgn a b)) ∧ Below w.heap.size w w' :=
  (Wd.cmp_any a b w).mono fun e w' ⟨he, c1, c2, hw⟩ => ⟨by rw [he, sgn_same], by rw [hw]; exact Wd.two_bel w c1 c2⟩
theorem ln_fits {n : Nat} (h : Wd.Fits n) : ln n ≤ 4 := ln_le (k := 4) (by have := (fits_iff n).1 h; rw [B_eq]; omega)
theorem bl_fits {n : Nat} (h : Wd.Fits n) : ((bl n : Nat) : Int) ≤ 128 := by
  have := bl_le (n := n) (k := 128) ((fits_iff n).1 h)
  omega
theorem bl_over {n : Nat} (h : ¬ Wd.Fits n) : ¬ ((bl n : Nat) : Int) ≤ 128 := by
  have h1 : 340282366920938463463374607431768211456 ≤ n := Nat.le_of_not_lt fun z => h ((fits_iff n).2 z)
  have := bl_mono h1
  rw [bl_m] at this
  omega
/-- Both numbers as they lie. -/
structure Ws (w : World) (a b : Nat) (wx : World) : Prop where
  a0 : wx.cell? ⟨w.heap.size, 0, none⟩ = some (.int .u64 (Wd.hi a))
  a1 : wx.cell? ⟨w.heap.size, 1, none⟩ = some (.int .u64 (Wd.lo a))
  b0 : wx.cell? ⟨w.heap.size + 1, 0, none⟩ = some (.int .u64 (Wd.hi b))
  b1 : wx.cell? ⟨w.heap.size + 1, 1, none⟩ = some (.int .u64 (Wd.lo b))
  bl : Below w.heap.size w wx
theorem Ws.next {w : World} {a b : Nat} {W w1 : World} (t : Ws w a b W) (hb : Below W.heap.size W w1) : Ws w a b w1 :=
  ⟨keep_cell hb t.a0, keep_cell hb t.a1, keep_cell hb t.b0, keep_cell hb t.b1, below_step t.bl hb⟩
theorem Ws.start (w : World) (a b : Nat) : Ws w a b ((w.alloc (.cells #[.int .u64 (Wd.hi a), .int .u64 (Wd.lo a)] 26)).alloc (.cells #[.int .u64 (Wd.hi b), .int .u64 (Wd.lo b)] 26)) :=
  ⟨by simp [go_sem, World.cell?_alloc_past], by simp [go_sem, World.cell?_alloc_past], by simp [go_sem], by simp [go_sem], ((Below.refl _ _).alloc (Nat.le_refl _) _).alloc (by simp) _⟩
set_option maxHeartbeats 8000000 in
set_option maxRecDepth 100000 in
theorem main11 {a b : Nat} {w : World} (ha : Wd.Fits a) (hb : Wd.Fits b) (fP : Wd.Fits (a + b)) (fM : Wd.Fits (a * b)) : Calls Tryd.prog 4 #[Wd.U a, Wd.U b] w fun e w' => e = .returned (.bool true) ∧ Below w.heap.size w w' := by
  have flP : ln (a + b) ≤ 64 := Nat.le_trans (ln_add (ln_fits ha) (ln_fits hb)) (by decide)
  have flM : ln (a * b) ≤ 64 := Nat.le_trans (ln_mul (ln_fits ha) (ln_fits hb)) (by decide)
  have KP : Hid (∀ (W : World) (G J : Option Addr) (g i j t : Nat), Lim W G g i (limbs a) → Lim W J j t (limbs b) → Calls Tryd.prog 25 #[.slice G g i, .slice J j t] W fun e w' => RetE (a + b) 0 W e w') := fun W G J g i j t h h' => by
    have := add_any h h' (Nat.le_trans (ln_fits ha) (by decide)) (Nat.le_trans (ln_fits hb) (by decide))
    rwa [fitN_yes flP, fitE_yes flP] at this
  have KM : Hid (∀ (W : World) (G J : Option Addr) (g i j t : Nat), Lim W G g i (limbs a) → Lim W J j t (limbs b) → Calls Tryd.prog 26 #[.slice G g i, .slice J j t] W fun e w' => RetE (a * b) 0 W e w') := fun W G J g i j t h h' => by
    have := mul_any h h' (Nat.le_trans (ln_fits ha) (by decide)) (Nat.le_trans (ln_fits hb) (by decide))
    rwa [fitN_yes flM, fitE_yes flM] at this
  have KWP : Hid (∀ W, Calls Tryd.prog 27 #[Wd.U a, Wd.U b] W fun e w' => e = .returned (.tuple #[Wd.U (a + b), .bool true]) ∧ Below W.heap.size W w') := fun W => by
    have := Wd.add_bel a b ha hb W
    rwa [Wd.cut_yes fP, Wd.fitsB_yes fP] at this
  have KBP : Hid (∀ (W : World) (G : Option Addr) (g i : Nat), Lim W G g i (limbs (a + b)) → Calls Tryd.prog 28 #[.slice G g i] W fun e w' => e = .returned (.int .i64 ((bl (a + b) : Nat) : Int)) ∧ W = w') := fun W G g i h => bits_any h flP
  have iP : ((bl (a + b) : Nat) : Int) ≤ 128 := bl_fits fP
  have KFP : Hid (∀ W, Calls Tryd.prog 24 #[Wd.U (a + b)] W fun e w' => RetN (a + b) W e w') := fun W => fromU fP W
  have KWM : Hid (∀ W, Calls Tryd.prog 29 #[Wd.U a, Wd.U b] W fun e w' => e = .returned (.tuple #[Wd.U (a * b), .bool true]) ∧ Below W.heap.size W w') := fun W => by
    have := Wd.mul_any a b ha hb W
    rwa [Wd.cut_yes fM, Wd.fitsB_yes fM] at this
  have KBM : Hid (∀ (W : World) (G : Option Addr) (g i : Nat), Lim W G g i (limbs (a * b)) → Calls Tryd.prog 28 #[.slice G g i] W fun e w' => e = .returned (.int .i64 ((bl (a * b) : Nat) : Int)) ∧ W = w') := fun W G g i h => bits_any h flM
  have iM : ((bl (a * b) : Nat) : Int) ≤ 128 := bl_fits fM
  have KFM : Hid (∀ W, Calls Tryd.prog 24 #[Wd.U (a * b)] W fun e w' => RetN (a * b) W e w') := fun W => fromU fM W
  have KA : Hid (∀ W, Calls Tryd.prog 24 #[Wd.U a] W fun e w' => RetN a W e w') := fun W => fromU ha W
  have KB : Hid (∀ W, Calls Tryd.prog 24 #[Wd.U b] W fun e w' => RetN b W e w') := fun W => fromU hb W
  have KT : Hid (∀ (W : World) (G : Option Addr) (g i : Nat), Lim W G g i (limbs a) → Calls Tryd.prog 21 #[.slice G g i] W fun e w' => e = .returned (.string ⟨(dtext a).toArray⟩) ∧ Below W.heap.size W w') := fun W G g i h => text_any h (Nat.le_trans (ln_fits ha) (by decide))
  have KU : Hid (∀ W, Calls Tryd.prog 30 #[Wd.U a] W fun e w' => e = .returned (.string ⟨(dtext a).toArray⟩) ∧ Below W.heap.size W w') := fun W => by
    have := Wd.text_any a ha W
    rwa [text_same a ((fits_iff a).1 ha)] at this
  have KC : Hid (∀ (W : World) (G J : Option Addr) (g i j t : Nat), Lim W G g i (limbs a) → Lim W J j t (limbs b) → Calls Tryd.prog 31 #[.slice G g i, .slice J j t] W fun e w' => e = .returned (.int .i64 (sgn a b)) ∧ Below W.heap.size W w') := fun W G J g i j t h h' => cmp_bel h h' (Nat.le_trans (ln_fits ha) (by decide)) (Nat.le_trans (ln_fits hb) (by decide))
  have KD : Hid (∀ W, Calls Tryd.prog 32 #[Wd.U a, Wd.U b] W fun e w' => e = .returned (.int .i64 (sgn a b)) ∧ Below W.heap.size W w') := fun W => wcmp a b W
  clear ha hb fP fM flP flM
  generalize sgn a b = sg at *
  generalize (⟨(dtext a).toArray⟩ : ByteArray) = T at *
  generalize a + b = sum at *
  generalize a * b = prod at *
  generalize ((bl sum : Nat) : Int) = bs at *
  generalize ((bl prod : Nat) : Int) = bp at *
  have S := Ws.start w a b
  go_enter Tryd.func4, Tryd.ntmps4
  go_upto_region 1 with fail
  generalize (w.alloc (.cells #[.int .u64 (Wd.hi a), .int .u64 (Wd.lo a)] 26)).alloc (.cells #[.int .u64 (Wd.hi b), .int .u64 (Wd.lo b)] 26) = w0 at *
  have a0 := S.a0; have a1 := S.a1; have b0 := S.b0; have b1 := S.b1
  have CC := Lib.hid (fun (W : World) (hb : Below _ _ W) => (⟨keep_cell hb S.a0, keep_cell hb S.a1, keep_cell hb S.b0, keep_cell hb S.b1⟩ : W.cell? ⟨w.heap.size, 0, none⟩ = some (.int .u64 (Wd.hi a)) ∧ W.cell? ⟨w.heap.size, 1, none⟩ = some (.int .u64 (Wd.lo a)) ∧ W.cell? ⟨w.heap.size + 1, 0, none⟩ = some (.int .u64 (Wd.hi b)) ∧ W.cell? ⟨w.heap.size + 1, 1, none⟩ = some (.int .u64 (Wd.lo b))))
  have SS := Lib.hid S
  clear S a0 a1 b0 b1
  go_region_held3 (fun W => W.cell? ⟨w.heap.size, 0, none⟩ = some (.int .u64 (Wd.hi a)) ∧ W.cell? ⟨w.heap.size, 1, none⟩ = some (.int .u64 (Wd.lo a)) ∧ W.cell? ⟨w.heap.size + 1, 0, none⟩ = some (.int .u64 (Wd.hi b)) ∧ W.cell? ⟨w.heap.size + 1, 1, none⟩ = some (.int .u64 (Wd.lo b)))
    ((refine CC.out _ ?_; repeat (first | with_reducible exact Below.refl _ _ | with_reducible exact (Below.refl _ _).drew | refine below_step ?_ (by assumption))))
    (first
      | (go_at_call 24; (with_reducible refine (KA.out _).mono ?_); rintro e r1 ⟨A1, n1, c1, rfl, L1, C1⟩)
      | (go_at_call 24; (with_reducible refine (KB.out _).mono ?_); rintro e r2 ⟨A2, n2, c2, rfl, L2, C2⟩))
  have S := (SS.out.next (Below.refl _ _).drew).next C1 |>.next C2
  have L1 := L1.next C2
  clear SS CC C1 C2 KA KB
  have a0 := S.a0; have a1 := S.a1; have b0 := S.b0; have b1 := S.b1
  go_wp2_with fail
  refine (KP.out _ _ _ _ _ _ _ L1 L2).mono ?_
  clear KP a0 a1 b0 b1
  rintro e r3 ⟨A3, n3, c3, rfl, L3, C1⟩
  have S := S.next C1; have L1 := L1.next C1; have L2 := L2.next C1
  clear C1
  have a0 := S.a0; have a1 := S.a1; have b0 := S.b0; have b1 := S.b1
  go_wp2_with fail
  refine (KM.out _ _ _ _ _ _ _ L1 L2).mono ?_
  clear KM a0 a1 b0 b1
  rintro e r4 ⟨A4, n4, c4, rfl, L4, C1⟩
  have S := S.next C1; have L1 := L1.next C1; have L2 := L2.next C1; have L3 := L3.next C1
  clear C1
  have a0 := S.a0; have a1 := S.a1; have b0 := S.b0; have b1 := S.b1
  go_wp2_with fail
  refine (KWP.out _).mono ?_
  clear KWP a0 a1 b0 b1
  rintro e r5 ⟨rfl, C1⟩
  have S := S.next C1; have L1 := L1.next C1; have L2 := L2.next C1; have L3 := L3.next C1; have L4 := L4.next C1
  clear C1
  have C1 : Below r5.heap.size r5 (r5.alloc (.cells #[.int .u64 (Wd.hi sum), .int .u64 (Wd.lo sum)] 26)) := (Below.refl _ _).alloc (Nat.le_refl _) _
  have t0 : (r5.alloc (.cells #[.int .u64 (Wd.hi sum), .int .u64 (Wd.lo sum)] 26)).cell? ⟨r5.heap.size, 0, none⟩ = some (.int .u64 (Wd.hi sum)) := by simp [go_sem]
  have t1 : (r5.alloc (.cells #[.int .u64 (Wd.hi sum), .int .u64 (Wd.lo sum)] 26)).cell? ⟨r5.heap.size, 1, none⟩ = some (.int .u64 (Wd.lo sum)) := by simp [go_sem]
  have S := S.next C1; have L1 := L1.next C1; have L2 := L2.next C1; have L3 := L3.next C1; have L4 := L4.next C1
  clear C1
  generalize hv : r5.alloc (.cells #[.int .u64 (Wd.hi sum), .int .u64 (Wd.lo sum)] 26) = v5 at *
  have a0 := S.a0; have a1 := S.a1; have b0 := S.b0; have b1 := S.b1
  go_wp2_with fail
  clear hv
  refine (KFP.out _).mono ?_
  clear KFP a0 a1 b0 b1 t0 t1
  rintro e p5 ⟨AF5, nf5, cf5, rfl, LF, C1⟩
  have S := S.next C1; have L1 := L1.next C1; have L2 := L2.next C1; have L3 := L3.next C1; have L4 := L4.next C1
  clear C1
  have a0 := S.a0; have a1 := S.a1; have b0 := S.b0; have b1 := S.b1
  go_wp2_with fail
  refine (same_yes L3 LF).mono ?_
  clear LF a0 a1 b0 b1
  rintro e q5 ⟨rfl, C1⟩
  have S := S.next C1; have L1 := L1.next C1; have L2 := L2.next C1; have L3 := L3.next C1; have L4 := L4.next C1
  clear C1
  have a0 := S.a0; have a1 := S.a1; have b0 := S.b0; have b1 := S.b1
  go_wp2_with fail
  refine (KBP.out _ _ _ _ L3).mono ?_
  clear KBP
  rintro e w' ⟨rfl, rfl⟩
  go_wp2_with fail
  refine (KWM.out _).mono ?_
  clear KWM a0 a1 b0 b1
  rintro e r8 ⟨rfl, C1⟩
  have S := S.next C1; have L1 := L1.next C1; have L2 := L2.next C1; have L3 := L3.next C1; have L4 := L4.next C1
  clear C1
  have C1 : Below r8.heap.size r8 (r8.alloc (.cells #[.int .u64 (Wd.hi prod), .int .u64 (Wd.lo prod)] 26)) := (Below.refl _ _).alloc (Nat.le_refl _) _
  have t0 : (r8.alloc (.cells #[.int .u64 (Wd.hi prod), .int .u64 (Wd.lo prod)] 26)).cell? ⟨r8.heap.size, 0, none⟩ = some (.int .u64 (Wd.hi prod)) := by simp [go_sem]
  have t1 : (r8.alloc (.cells #[.int .u64 (Wd.hi prod), .int .u64 (Wd.lo prod)] 26)).cell? ⟨r8.heap.size, 1, none⟩ = some (.int .u64 (Wd.lo prod)) := by simp [go_sem]
  have S := S.next C1; have L1 := L1.next C1; have L2 := L2.next C1; have L3 := L3.next C1; have L4 := L4.next C1
  clear C1
  generalize hv : r8.alloc (.cells #[.int .u64 (Wd.hi prod), .int .u64 (Wd.lo prod)] 26) = v8 at *
  have a0 := S.a0; have a1 := S.a1; have b0 := S.b0; have b1 := S.b1
  go_wp2_with fail
  clear hv
  refine (KFM.out _).mono ?_
  clear KFM a0 a1 b0 b1 t0 t1
  rintro e p8 ⟨AF8, nf8, cf8, rfl, LF, C1⟩
  have S := S.next C1; have L1 := L1.next C1; have L2 := L2.next C1; have L3 := L3.next C1; have L4 := L4.next C1
  clear C1
  have a0 := S.a0; have a1 := S.a1; have b0 := S.b0; have b1 := S.b1
  go_wp2_with fail
  refine (same_yes L4 LF).mono ?_
  clear LF a0 a1 b0 b1
  rintro e q8 ⟨rfl, C1⟩
  have S := S.next C1; have L1 := L1.next C1; have L2 := L2.next C1; have L3 := L3.next C1; have L4 := L4.next C1
  clear C1
  have a0 := S.a0; have a1 := S.a1; have b0 := S.b0; have b1 := S.b1
  go_wp2_with fail
  refine (KBM.out _ _ _ _ L4).mono ?_
  clear KBM
  rintro e w' ⟨rfl, rfl⟩
  go_upto_region 10 with fail
  have H1 := Lib.hid L1; have H2 := Lib.hid L2
  clear L3 L4
  have KT := Lib.hid (fun (W : World) (hb : Below _ _ W) => KT.out W _ _ _ (L1.next hb))
  have KC := Lib.hid (fun (W : World) (hb : Below _ _ W) => KC.out W _ _ _ _ _ _ (L1.next hb) (L2.next hb))
  clear L1 L2 H1 H2
  have CC := Lib.hid (fun (W : World) (hb : Below _ _ W) => (⟨keep_cell hb S.a0, keep_cell hb S.a1, keep_cell hb S.b0, keep_cell hb S.b1⟩ : W.cell? ⟨w.heap.size, 0, none⟩ = some (.int .u64 (Wd.hi a)) ∧ W.cell? ⟨w.heap.size, 1, none⟩ = some (.int .u64 (Wd.lo a)) ∧ W.cell? ⟨w.heap.size + 1, 0, none⟩ = some (.int .u64 (Wd.hi b)) ∧ W.cell? ⟨w.heap.size + 1, 1, none⟩ = some (.int .u64 (Wd.lo b))))
  have SS := Lib.hid S
  clear S a0 a1 b0 b1
  go_region_held3 (fun W => W.cell? ⟨w.heap.size, 0, none⟩ = some (.int .u64 (Wd.hi a)) ∧ W.cell? ⟨w.heap.size, 1, none⟩ = some (.int .u64 (Wd.lo a)) ∧ W.cell? ⟨w.heap.size + 1, 0, none⟩ = some (.int .u64 (Wd.hi b)) ∧ W.cell? ⟨w.heap.size + 1, 1, none⟩ = some (.int .u64 (Wd.lo b)))
    ((refine CC.out _ ?_; repeat (first | with_reducible exact Below.refl _ _ | with_reducible exact (Below.refl _ _).drew | refine below_step ?_ (by assumption))))
    (first
      | (go_at_call 21; (with_reducible refine (KT.out _ ?_).mono ?_); (· repeat (first | with_reducible exact Below.refl _ _ | with_reducible exact (Below.refl _ _).drew | refine below_step ?_ (by assumption))); rintro e s1 ⟨rfl, C1⟩)
      | (go_at_call 30; (with_reducible refine (KU.out _).mono ?_); rintro e s2 ⟨rfl, C2⟩)
      | (go_at_call 31; (with_reducible refine (KC.out _ ?_).mono ?_); (· repeat (first | with_reducible exact Below.refl _ _ | with_reducible exact (Below.refl _ _).drew | refine below_step ?_ (by assumption))); rintro e s3 ⟨rfl, C3⟩)
      | (go_at_call 32; (with_reducible refine (KD.out _).mono ?_); rintro e s4 ⟨rfl, C4⟩)
      | (go_at_call 13; refine (awake_any _).mono ?_; rintro e s5 ⟨rfl, C5⟩))
  all_goals go_wp2_with fail
  all_goals go_ret
  all_goals refine ⟨rfl, ?_⟩
  all_goals (repeat (first | with_reducible exact SS.out.bl | with_reducible exact SS.out.bl.drew | refine below_step ?_ (by assumption)))
set_option maxHeartbeats 8000000 in
set_option maxRecDepth 100000 in
theorem main10 {a b : Nat} {w : World} (ha : Wd.Fits a) (hb : Wd.Fits b) (fP : Wd.Fits (a + b)) (fM : ¬ Wd.Fits (a * b)) : Calls Tryd.prog 4 #[Wd.U a, Wd.U b] w fun e w' => e = .returned (.bool true) ∧ Below w.heap.size w w' := by
  have flP : ln (a + b) ≤ 64 := Nat.le_trans (ln_add (ln_fits ha) (ln_fits hb)) (by decide)
  have flM : ln (a * b) ≤ 64 := Nat.le_trans (ln_mul (ln_fits ha) (ln_fits hb)) (by decide)
  have KP : Hid (∀ (W : World) (G J : Option Addr) (g i j t : Nat), Lim W G g i (limbs a) → Lim W J j t (limbs b) → Calls Tryd.prog 25 #[.slice G g i, .slice J j t] W fun e w' => RetE (a + b) 0 W e w') := fun W G J g i j t h h' => by
    have := add_any h h' (Nat.le_trans (ln_fits ha) (by decide)) (Nat.le_trans (ln_fits hb) (by decide))
    rwa [fitN_yes flP, fitE_yes flP] at this
  have KM : Hid (∀ (W : World) (G J : Option Addr) (g i j t : Nat), Lim W G g i (limbs a) → Lim W J j t (limbs b) → Calls Tryd.prog 26 #[.slice G g i, .slice J j t] W fun e w' => RetE (a * b) 0 W e w') := fun W G J g i j t h h' => by
    have := mul_any h h' (Nat.le_trans (ln_fits ha) (by decide)) (Nat.le_trans (ln_fits hb) (by decide))
    rwa [fitN_yes flM, fitE_yes flM] at this
  have KWP : Hid (∀ W, Calls Tryd.prog 27 #[Wd.U a, Wd.U b] W fun e w' => e = .returned (.tuple #[Wd.U (a + b), .bool true]) ∧ Below W.heap.size W w') := fun W => by
    have := Wd.add_bel a b ha hb W
    rwa [Wd.cut_yes fP, Wd.fitsB_yes fP] at this
  have KBP : Hid (∀ (W : World) (G : Option Addr) (g i : Nat), Lim W G g i (limbs (a + b)) → Calls Tryd.prog 28 #[.slice G g i] W fun e w' => e = .returned (.int .i64 ((bl (a + b) : Nat) : Int)) ∧ W = w') := fun W G g i h => bits_any h flP
  have iP : ((bl (a + b) : Nat) : Int) ≤ 128 := bl_fits fP
  have KFP : Hid (∀ W, Calls Tryd.prog 24 #[Wd.U (a + b)] W fun e w' => RetN (a + b) W e w') := fun W => fromU fP W
  have KWM : Hid (∀ W, Calls Tryd.prog 29 #[Wd.U a, Wd.U b] W fun e w' => e = .returned (.tuple #[Wd.U (0), .bool false]) ∧ Below W.heap.size W w') := fun W => by
    have := Wd.mul_any a b ha hb W
    rwa [Wd.cut_no fM, Wd.fitsB_no fM] at this
  have KBM : Hid (∀ (W : World) (G : Option Addr) (g i : Nat), Lim W G g i (limbs (a * b)) → Calls Tryd.prog 28 #[.slice G g i] W fun e w' => e = .returned (.int .i64 ((bl (a * b) : Nat) : Int)) ∧ W = w') := fun W G g i h => bits_any h flM
  have iM : ¬ ((bl (a * b) : Nat) : Int) ≤ 128 := bl_over fM
  have KA : Hid (∀ W, Calls Tryd.prog 24 #[Wd.U a] W fun e w' => RetN a W e w') := fun W => fromU ha W
  have KB : Hid (∀ W, Calls Tryd.prog 24 #[Wd.U b] W fun e w' => RetN b W e w') := fun W => fromU hb W
  have KT : Hid (∀ (W : World) (G : Option Addr) (g i : Nat), Lim W G g i (limbs a) → Calls Tryd.prog 21 #[.slice G g i] W fun e w' => e = .returned (.string ⟨(dtext a).toArray⟩) ∧ Below W.heap.size W w') := fun W G g i h => text_any h (Nat.le_trans (ln_fits ha) (by decide))
  have KU : Hid (∀ W, Calls Tryd.prog 30 #[Wd.U a] W fun e w' => e = .returned (.string ⟨(dtext a).toArray⟩) ∧ Below W.heap.size W w') := fun W => by
    have := Wd.text_any a ha W
    rwa [text_same a ((fits_iff a).1 ha)] at this
  have KC : Hid (∀ (W : World) (G J : Option Addr) (g i j t : Nat), Lim W G g i (limbs a) → Lim W J j t (limbs b) → Calls Tryd.prog 31 #[.slice G g i, .slice J j t] W fun e w' => e = .returned (.int .i64 (sgn a b)) ∧ Below W.heap.size W w') := fun W G J g i j t h h' => cmp_bel h h' (Nat.le_trans (ln_fits ha) (by decide)) (Nat.le_trans (ln_fits hb) (by decide))
  have KD : Hid (∀ W, Calls Tryd.prog 32 #[Wd.U a, Wd.U b] W fun e w' => e = .returned (.int .i64 (sgn a b)) ∧ Below W.heap.size W w') := fun W => wcmp a b W
  clear ha hb fP fM flP flM
  generalize sgn a b = sg at *
  generalize (⟨(dtext a).toArray⟩ : ByteArray) = T at *
  generalize a + b = sum at *
  generalize a * b = prod at *
  generalize ((bl sum : Nat) : Int) = bs at *
  generalize ((bl prod : Nat) : Int) = bp at *
  have S := Ws.start w a b
  go_enter Tryd.func4, Tryd.ntmps4
  go_upto_region 1 with fail
  generalize (w.alloc (.cells #[.int .u64 (Wd.hi a), .int .u64 (Wd.lo a)] 26)).alloc (.cells #[.int .u64 (Wd.hi b), .int .u64 (Wd.lo b)] 26) = w0 at *
  have a0 := S.a0; have a1 := S.a1; have b0 := S.b0; have b1 := S.b1
  have CC := Lib.hid (fun (W : World) (hb : Below _ _ W) => (⟨keep_cell hb S.a0, keep_cell hb S.a1, keep_cell hb S.b0, keep_cell hb S.b1⟩ : W.cell? ⟨w.heap.size, 0, none⟩ = some (.int .u64 (Wd.hi a)) ∧ W.cell? ⟨w.heap.size, 1, none⟩ = some (.int .u64 (Wd.lo a)) ∧ W.cell? ⟨w.heap.size + 1, 0, none⟩ = some (.int .u64 (Wd.hi b)) ∧ W.cell? ⟨w.heap.size + 1, 1, none⟩ = some (.int .u64 (Wd.lo b))))
  have SS := Lib.hid S
  clear S a0 a1 b0 b1
  go_region_held3 (fun W => W.cell? ⟨w.heap.size, 0, none⟩ = some (.int .u64 (Wd.hi a)) ∧ W.cell? ⟨w.heap.size, 1, none⟩ = some (.int .u64 (Wd.lo a)) ∧ W.cell? ⟨w.heap.size + 1, 0, none⟩ = some (.int .u64 (Wd.hi b)) ∧ W.cell? ⟨w.heap.size + 1, 1, none⟩ = some (.int .u64 (Wd.lo b)))
    ((refine CC.out _ ?_; repeat (first | with_reducible exact Below.refl _ _ | with_reducible exact (Below.refl _ _).drew | refine below_step ?_ (by assumption))))
    (first
      | (go_at_call 24; (with_reducible refine (KA.out _).mono ?_); rintro e r1 ⟨A1, n1, c1, rfl, L1, C1⟩)
      | (go_at_call 24; (with_reducible refine (KB.out _).mono ?_); rintro e r2 ⟨A2, n2, c2, rfl, L2, C2⟩))
  have S := (SS.out.next (Below.refl _ _).drew).next C1 |>.next C2
  have L1 := L1.next C2
  clear SS CC C1 C2 KA KB
  have a0 := S.a0; have a1 := S.a1; have b0 := S.b0; have b1 := S.b1
  go_wp2_with fail
  refine (KP.out _ _ _ _ _ _ _ L1 L2).mono ?_
  clear KP a0 a1 b0 b1
  rintro e r3 ⟨A3, n3, c3, rfl, L3, C1⟩
  have S := S.next C1; have L1 := L1.next C1; have L2 := L2.next C1
  clear C1
  have a0 := S.a0; have a1 := S.a1; have b0 := S.b0; have b1 := S.b1
  go_wp2_with fail
  refine (KM.out _ _ _ _ _ _ _ L1 L2).mono ?_
  clear KM a0 a1 b0 b1
  rintro e r4 ⟨A4, n4, c4, rfl, L4, C1⟩
  have S := S.next C1; have L1 := L1.next C1; have L2 := L2.next C1; have L3 := L3.next C1
  clear C1
  have a0 := S.a0; have a1 := S.a1; have b0 := S.b0; have b1 := S.b1
  go_wp2_with fail
  refine (KWP.out _).mono ?_
  clear KWP a0 a1 b0 b1
  rintro e r5 ⟨rfl, C1⟩
  have S := S.next C1; have L1 := L1.next C1; have L2 := L2.next C1; have L3 := L3.next C1; have L4 := L4.next C1
  clear C1
  have C1 : Below r5.heap.size r5 (r5.alloc (.cells #[.int .u64 (Wd.hi sum), .int .u64 (Wd.lo sum)] 26)) := (Below.refl _ _).alloc (Nat.le_refl _) _
  have t0 : (r5.alloc (.cells #[.int .u64 (Wd.hi sum), .int .u64 (Wd.lo sum)] 26)).cell? ⟨r5.heap.size, 0, none⟩ = some (.int .u64 (Wd.hi sum)) := by simp [go_sem]
  have t1 : (r5.alloc (.cells #[.int .u64 (Wd.hi sum), .int .u64 (Wd.lo sum)] 26)).cell? ⟨r5.heap.size, 1, none⟩ = some (.int .u64 (Wd.lo sum)) := by simp [go_sem]
  have S := S.next C1; have L1 := L1.next C1; have L2 := L2.next C1; have L3 := L3.next C1; have L4 := L4.next C1
  clear C1
  generalize hv : r5.alloc (.cells #[.int .u64 (Wd.hi sum), .int .u64 (Wd.lo sum)] 26) = v5 at *
  have a0 := S.a0; have a1 := S.a1; have b0 := S.b0; have b1 := S.b1
  go_wp2_with fail
  clear hv
  refine (KFP.out _).mono ?_
  clear KFP a0 a1 b0 b1 t0 t1
  rintro e p5 ⟨AF5, nf5, cf5, rfl, LF, C1⟩
  have S := S.next C1; have L1 := L1.next C1; have L2 := L2.next C1; have L3 := L3.next C1; have L4 := L4.next C1
  clear C1
  have a0 := S.a0; have a1 := S.a1; have b0 := S.b0; have b1 := S.b1
  go_wp2_with fail
  refine (same_yes L3 LF).mono ?_
  clear LF a0 a1 b0 b1
  rintro e q5 ⟨rfl, C1⟩
  have S := S.next C1; have L1 := L1.next C1; have L2 := L2.next C1; have L3 := L3.next C1; have L4 := L4.next C1
  clear C1
  have a0 := S.a0; have a1 := S.a1; have b0 := S.b0; have b1 := S.b1
  go_wp2_with fail
  refine (KBP.out _ _ _ _ L3).mono ?_
  clear KBP
  rintro e w' ⟨rfl, rfl⟩
  go_wp2_with fail
  refine (KWM.out _).mono ?_
  clear KWM a0 a1 b0 b1
  rintro e r8 ⟨rfl, C1⟩
  have S := S.next C1; have L1 := L1.next C1; have L2 := L2.next C1; have L3 := L3.next C1; have L4 := L4.next C1
  clear C1
  have C1 : Below r8.heap.size r8 (r8.alloc (.cells #[.int .u64 (Wd.hi 0), .int .u64 (Wd.lo 0)] 26)) := (Below.refl _ _).alloc (Nat.le_refl _) _
  have S := S.next C1; have L1 := L1.next C1; have L2 := L2.next C1; have L3 := L3.next C1; have L4 := L4.next C1
  clear C1
  generalize hv : r8.alloc (.cells #[.int .u64 (Wd.hi 0), .int .u64 (Wd.lo 0)] 26) = v8 at *
  have a0 := S.a0; have a1 := S.a1; have b0 := S.b0; have b1 := S.b1
  go_wp2_with fail
  clear hv
  refine (KBM.out _ _ _ _ L4).mono ?_
  clear KBM
  rintro e w' ⟨rfl, rfl⟩
  go_upto_region 10 with fail
  have H1 := Lib.hid L1; have H2 := Lib.hid L2
  clear L3 L4
  have KT := Lib.hid (fun (W : World) (hb : Below _ _ W) => KT.out W _ _ _ (L1.next hb))
  have KC := Lib.hid (fun (W : World) (hb : Below _ _ W) => KC.out W _ _ _ _ _ _ (L1.next hb) (L2.next hb))
  clear L1 L2 H1 H2
  have CC := Lib.hid (fun (W : World) (hb : Below _ _ W) => (⟨keep_cell hb S.a0, keep_cell hb S.a1, keep_cell hb S.b0, keep_cell hb S.b1⟩ : W.cell? ⟨w.heap.size, 0, none⟩ = some (.int .u64 (Wd.hi a)) ∧ W.cell? ⟨w.heap.size, 1, none⟩ = some (.int .u64 (Wd.lo a)) ∧ W.cell? ⟨w.heap.size + 1, 0, none⟩ = some (.int .u64 (Wd.hi b)) ∧ W.cell? ⟨w.heap.size + 1, 1, none⟩ = some (.int .u64 (Wd.lo b))))
  have SS := Lib.hid S
  clear S a0 a1 b0 b1
  go_region_held3 (fun W => W.cell? ⟨w.heap.size, 0, none⟩ = some (.int .u64 (Wd.hi a)) ∧ W.cell? ⟨w.heap.size, 1, none⟩ = some (.int .u64 (Wd.lo a)) ∧ W.cell? ⟨w.heap.size + 1, 0, none⟩ = some (.int .u64 (Wd.hi b)) ∧ W.cell? ⟨w.heap.size + 1, 1, none⟩ = some (.int .u64 (Wd.lo b)))
    ((refine CC.out _ ?_; repeat (first | with_reducible exact Below.refl _ _ | with_reducible exact (Below.refl _ _).drew | refine below_step ?_ (by assumption))))
    (first
      | (go_at_call 21; (with_reducible refine (KT.out _ ?_).mono ?_); (· repeat (first | with_reducible exact Below.refl _ _ | with_reducible exact (Below.refl _ _).drew | refine below_step ?_ (by assumption))); rintro e s1 ⟨rfl, C1⟩)
      | (go_at_call 30; (with_reducible refine (KU.out _).mono ?_); rintro e s2 ⟨rfl, C2⟩)
      | (go_at_call 31; (with_reducible refine (KC.out _ ?_).mono ?_); (· repeat (first | with_reducible exact Below.refl _ _ | with_reducible exact (Below.refl _ _).drew | refine below_step ?_ (by assumption))); rintro e s3 ⟨rfl, C3⟩)
      | (go_at_call 32; (with_reducible refine (KD.out _).mono ?_); rintro e s4 ⟨rfl, C4⟩)
      | (go_at_call 13; refine (awake_any _).mono ?_; rintro e s5 ⟨rfl, C5⟩))
  all_goals go_wp2_with fail
  all_goals go_ret
  all_goals refine ⟨rfl, ?_⟩
  all_goals (repeat (first | with_reducible exact SS.out.bl | with_reducible exact SS.out.bl.drew | refine below_step ?_ (by assumption)))
set_option maxHeartbeats 8000000 in
set_option maxRecDepth 100000 in
theorem main01 {a b : Nat} {w : World} (ha : Wd.Fits a) (hb : Wd.Fits b) (fP : ¬ Wd.Fits (a + b)) (fM : Wd.Fits (a * b)) : Calls Tryd.prog 4 #[Wd.U a, Wd.U b] w fun e w' => e = .returned (.bool true) ∧ Below w.heap.size w w' := by
  have flP : ln (a + b) ≤ 64 := Nat.le_trans (ln_add (ln_fits ha) (ln_fits hb)) (by decide)
  have flM : ln (a * b) ≤ 64 := Nat.le_trans (ln_mul (ln_fits ha) (ln_fits hb)) (by decide)
  have KP : Hid (∀ (W : World) (G J : Option Addr) (g i j t : Nat), Lim W G g i (limbs a) → Lim W J j t (limbs b) → Calls Tryd.prog 25 #[.slice G g i, .slice J j t] W fun e w' => RetE (a + b) 0 W e w') := fun W G J g i j t h h' => by
    have := add_any h h' (Nat.le_trans (ln_fits ha) (by decide)) (Nat.le_trans (ln_fits hb) (by decide))
    rwa [fitN_yes flP, fitE_yes flP] at this
  have KM : Hid (∀ (W : World) (G J : Option Addr) (g i j t : Nat), Lim W G g i (limbs a) → Lim W J j t (limbs b) → Calls Tryd.prog 26 #[.slice G g i, .slice J j t] W fun e w' => RetE (a * b) 0 W e w') := fun W G J g i j t h h' => by
    have := mul_any h h' (Nat.le_trans (ln_fits ha) (by decide)) (Nat.le_trans (ln_fits hb) (by decide))
    rwa [fitN_yes flM, fitE_yes flM] at this
  have KWP : Hid (∀ W, Calls Tryd.prog 27 #[Wd.U a, Wd.U b] W fun e w' => e = .returned (.tuple #[Wd.U (0), .bool false]) ∧ Below W.heap.size W w') := fun W => by
    have := Wd.add_bel a b ha hb W
    rwa [Wd.cut_no fP, Wd.fitsB_no fP] at this
  have KBP : Hid (∀ (W : World) (G : Option Addr) (g i : Nat), Lim W G g i (limbs (a + b)) → Calls Tryd.prog 28 #[.slice G g i] W fun e w' => e = .returned (.int .i64 ((bl (a + b) : Nat) : Int)) ∧ W = w') := fun W G g i h => bits_any h flP
  have iP : ¬ ((bl (a + b) : Nat) : Int) ≤ 128 := bl_over fP
  have KWM : Hid (∀ W, Calls Tryd.prog 29 #[Wd.U a, Wd.U b] W fun e w' => e = .returned (.tuple #[Wd.U (a * b), .bool true]) ∧ Below W.heap.size W w') := fun W => by
    have := Wd.mul_any a b ha hb W
    rwa [Wd.cut_yes fM, Wd.fitsB_yes fM] at this
  have KBM : Hid (∀ (W : World) (G : Option Addr) (g i : Nat), Lim W G g i (limbs (a * b)) → Calls Tryd.prog 28 #[.slice G g i] W fun e w' => e = .returned (.int .i64 ((bl (a * b) : Nat) : Int)) ∧ W = w') := fun W G g i h => bits_any h flM
  have iM : ((bl (a * b) : Nat) : Int) ≤ 128 := bl_fits fM
  have KFM : Hid (∀ W, Calls Tryd.prog 24 #[Wd.U (a * b)] W fun e w' => RetN (a * b) W e w') := fun W => fromU fM W
  have KA : Hid (∀ W, Calls Tryd.prog 24 #[Wd.U a] W fun e w' => RetN a W e w') := fun W => fromU ha W
  have KB : Hid (∀ W, Calls Tryd.prog 24 #[Wd.U b] W fun e w' => RetN b W e w') := fun W => fromU hb W
  have KT : Hid (∀ (W : World) (G : Option Addr) (g i : Nat), Lim W G g i (limbs a) → Calls Tryd.prog 21 #[.slice G g i] W fun e w' => e = .returned (.string ⟨(dtext a).toArray⟩) ∧ Below W.heap.size W w') := fun W G g i h => text_any h (Nat.le_trans (ln_fits ha) (by decide))
  have KU : Hid (∀ W, Calls Tryd.prog 30 #[Wd.U a] W fun e w' => e = .returned (.string ⟨(dtext a).toArray⟩) ∧ Below W.heap.size W w') := fun W => by
    have := Wd.text_any a ha W
    rwa [text_same a ((fits_iff a).1 ha)] at this
  have KC : Hid (∀ (W : World) (G J : Option Addr) (g i j t : Nat), Lim W G g i (limbs a) → Lim W J j t (limbs b) → Calls Tryd.prog 31 #[.slice G g i, .slice J j t] W fun e w' => e = .returned (.int .i64 (sgn a b)) ∧ Below W.heap.size W w') := fun W G J g i j t h h' => cmp_bel h h' (Nat.le_trans (ln_fits ha) (by decide)) (Nat.le_trans (ln_fits hb) (by decide))
  have KD : Hid (∀ W, Calls Tryd.prog 32 #[Wd.U a, Wd.U b] W fun e w' => e = .returned (.int .i64 (sgn a b)) ∧ Below W.heap.size W w') := fun W => wcmp a b W
  clear ha hb fP fM flP flM
  generalize sgn a b = sg at *
  generalize (⟨(dtext a).toArray⟩ : ByteArray) = T at *
  generalize a + b = sum at *
  generalize a * b = prod at *
  generalize ((bl sum : Nat) : Int) = bs at *
  generalize ((bl prod : Nat) : Int) = bp at *
  have S := Ws.start w a b
  go_enter Tryd.func4, Tryd.ntmps4
  go_upto_region 1 with fail
  generalize (w.alloc (.cells #[.int .u64 (Wd.hi a), .int .u64 (Wd.lo a)] 26)).alloc (.cells #[.int .u64 (Wd.hi b), .int .u64 (Wd.lo b)] 26) = w0 at *
  have a0 := S.a0; have a1 := S.a1; have b0 := S.b0; have b1 := S.b1
  have CC := Lib.hid (fun (W : World) (hb : Below _ _ W) => (⟨keep_cell hb S.a0, keep_cell hb S.a1, keep_cell hb S.b0, keep_cell hb S.b1⟩ : W.cell? ⟨w.heap.size, 0, none⟩ = some (.int .u64 (Wd.hi a)) ∧ W.cell? ⟨w.heap.size, 1, none⟩ = some (.int .u64 (Wd.lo a)) ∧ W.cell? ⟨w.heap.size + 1, 0, none⟩ = some (.int .u64 (Wd.hi b)) ∧ W.cell? ⟨w.heap.size + 1, 1, none⟩ = some (.int .u64 (Wd.lo b))))
  have SS := Lib.hid S
  clear S a0 a1 b0 b1
  go_region_held3 (fun W => W.cell? ⟨w.heap.size, 0, none⟩ = some (.int .u64 (Wd.hi a)) ∧ W.cell? ⟨w.heap.size, 1, none⟩ = some (.int .u64 (Wd.lo a)) ∧ W.cell? ⟨w.heap.size + 1, 0, none⟩ = some (.int .u64 (Wd.hi b)) ∧ W.cell? ⟨w.heap.size + 1, 1, none⟩ = some (.int .u64 (Wd.lo b)))
    ((refine CC.out _ ?_; repeat (first | with_reducible exact Below.refl _ _ | with_reducible exact (Below.refl _ _).drew | refine below_step ?_ (by assumption))))
    (first
      | (go_at_call 24; (with_reducible refine (KA.out _).mono ?_); rintro e r1 ⟨A1, n1, c1, rfl, L1, C1⟩)
      | (go_at_call 24; (with_reducible refine (KB.out _).mono ?_); rintro e r2 ⟨A2, n2, c2, rfl, L2, C2⟩))
  have S := (SS.out.next (Below.refl _ _).drew).next C1 |>.next C2
  have L1 := L1.next C2
  clear SS CC C1 C2 KA KB
  have a0 := S.a0; have a1 := S.a1; have b0 := S.b0; have b1 := S.b1
  go_wp2_with fail
  refine (KP.out _ _ _ _ _ _ _ L1 L2).mono ?_
  clear KP a0 a1 b0 b1
  rintro e r3 ⟨A3, n3, c3, rfl, L3, C1⟩
  have S := S.next C1; have L1 := L1.next C1; have L2 := L2.next C1
  clear C1
  have a0 := S.a0; have a1 := S.a1; have b0 := S.b0; have b1 := S.b1
  go_wp2_with fail
  refine (KM.out _ _ _ _ _ _ _ L1 L2).mono ?_
  clear KM a0 a1 b0 b1
  rintro e r4 ⟨A4, n4, c4, rfl, L4, C1⟩
  have S := S.next C1; have L1 := L1.next C1; have L2 := L2.next C1; have L3 := L3.next C1
  clear C1
  have a0 := S.a0; have a1 := S.a1; have b0 := S.b0; have b1 := S.b1
  go_wp2_with fail
  refine (KWP.out _).mono ?_
  clear KWP a0 a1 b0 b1
  rintro e r5 ⟨rfl, C1⟩
  have S := S.next C1; have L1 := L1.next C1; have L2 := L2.next C1; have L3 := L3.next C1; have L4 := L4.next C1
  clear C1
  have C1 : Below r5.heap.size r5 (r5.alloc (.cells #[.int .u64 (Wd.hi 0), .int .u64 (Wd.lo 0)] 26)) := (Below.refl _ _).alloc (Nat.le_refl _) _
  have S := S.next C1; have L1 := L1.next C1; have L2 := L2.next C1; have L3 := L3.next C1; have L4 := L4.next C1
  clear C1
  generalize hv : r5.alloc (.cells #[.int .u64 (Wd.hi 0), .int .u64 (Wd.lo 0)] 26) = v5 at *
  have a0 := S.a0; have a1 := S.a1; have b0 := S.b0; have b1 := S.b1
  go_wp2_with fail
  clear hv
  refine (KBP.out _ _ _ _ L3).mono ?_
  clear KBP
  rintro e w' ⟨rfl, rfl⟩
  go_wp2_with fail
  refine (KWM.out _).mono ?_
  clear KWM a0 a1 b0 b1
  rintro e r8 ⟨rfl, C1⟩
  have S := S.next C1; have L1 := L1.next C1; have L2 := L2.next C1; have L3 := L3.next C1; have L4 := L4.next C1
  clear C1
  have C1 : Below r8.heap.size r8 (r8.alloc (.cells #[.int .u64 (Wd.hi prod), .int .u64 (Wd.lo prod)] 26)) := (Below.refl _ _).alloc (Nat.le_refl _) _
  have t0 : (r8.alloc (.cells #[.int .u64 (Wd.hi prod), .int .u64 (Wd.lo prod)] 26)).cell? ⟨r8.heap.size, 0, none⟩ = some (.int .u64 (Wd.hi prod)) := by simp [go_sem]
  have t1 : (r8.alloc (.cells #[.int .u64 (Wd.hi prod), .int .u64 (Wd.lo prod)] 26)).cell? ⟨r8.heap.size, 1, none⟩ = some (.int .u64 (Wd.lo prod)) := by simp [go_sem]
  have S := S.next C1; have L1 := L1.next C1; have L2 := L2.next C1; have L3 := L3.next C1; have L4 := L4.next C1
  clear C1
  generalize hv : r8.alloc (.cells #[.int .u64 (Wd.hi prod), .int .u64 (Wd.lo prod)] 26) = v8 at *
  have a0 := S.a0; have a1 := S.a1; have b0 := S.b0; have b1 := S.b1
  go_wp2_with fail
  clear hv
  refine (KFM.out _).mono ?_
  clear KFM a0 a1 b0 b1 t0 t1
  rintro e p8 ⟨AF8, nf8, cf8, rfl, LF, C1⟩
  have S := S.next C1; have L1 := L1.next C1; have L2 := L2.next C1; have L3 := L3.next C1; have L4 := L4.next C1
  clear C1
  have a0 := S.a0; have a1 := S.a1; have b0 := S.b0; have b1 := S.b1
  go_wp2_with fail
  refine (same_yes L4 LF).mono ?_
  clear LF a0 a1 b0 b1
  rintro e q8 ⟨rfl, C1⟩
  have S := S.next C1; have L1 := L1.next C1; have L2 := L2.next C1; have L3 := L3.next C1; have L4 := L4.next C1
  clear C1
  have a0 := S.a0; have a1 := S.a1; have b0 := S.b0; have b1 := S.b1
  go_wp2_with fail
  refine (KBM.out _ _ _ _ L4).mono ?_
  clear KBM
  rintro e w' ⟨rfl, rfl⟩
  go_upto_region 10 with fail
  have H1 := Lib.hid L1; have H2 := Lib.hid L2
  clear L3 L4
  have KT := Lib.hid (fun (W : World) (hb : Below _ _ W) => KT.out W _ _ _ (L1.next hb))
  have KC := Lib.hid (fun (W : World) (hb : Below _ _ W) => KC.out W _ _ _ _ _ _ (L1.next hb) (L2.next hb))
  clear L1 L2 H1 H2
  have CC := Lib.hid (fun (W : World) (hb : Below _ _ W) => (⟨keep_cell hb S.a0, keep_cell hb S.a1, keep_cell hb S.b0, keep_cell hb S.b1⟩ : W.cell? ⟨w.heap.size, 0, none⟩ = some (.int .u64 (Wd.hi a)) ∧ W.cell? ⟨w.heap.size, 1, none⟩ = some (.int .u64 (Wd.lo a)) ∧ W.cell? ⟨w.heap.size + 1, 0, none⟩ = some (.int .u64 (Wd.hi b)) ∧ W.cell? ⟨w.heap.size + 1, 1, none⟩ = some (.int .u64 (Wd.lo b))))
  have SS := Lib.hid S
  clear S a0 a1 b0 b1
  go_region_held3 (fun W => W.cell? ⟨w.heap.size, 0, none⟩ = some (.int .u64 (Wd.hi a)) ∧ W.cell? ⟨w.heap.size, 1, none⟩ = some (.int .u64 (Wd.lo a)) ∧ W.cell? ⟨w.heap.size + 1, 0, none⟩ = some (.int .u64 (Wd.hi b)) ∧ W.cell? ⟨w.heap.size + 1, 1, none⟩ = some (.int .u64 (Wd.lo b)))
    ((refine CC.out _ ?_; repeat (first | with_reducible exact Below.refl _ _ | with_reducible exact (Below.refl _ _).drew | refine below_step ?_ (by assumption))))
    (first
      | (go_at_call 21; (with_reducible refine (KT.out _ ?_).mono ?_); (· repeat (first | with_reducible exact Below.refl _ _ | with_reducible exact (Below.refl _ _).drew | refine below_step ?_ (by assumption))); rintro e s1 ⟨rfl, C1⟩)
      | (go_at_call 30; (with_reducible refine (KU.out _).mono ?_); rintro e s2 ⟨rfl, C2⟩)
      | (go_at_call 31; (with_reducible refine (KC.out _ ?_).mono ?_); (· repeat (first | with_reducible exact Below.refl _ _ | with_reducible exact (Below.refl _ _).drew | refine below_step ?_ (by assumption))); rintro e s3 ⟨rfl, C3⟩)
      | (go_at_call 32; (with_reducible refine (KD.out _).mono ?_); rintro e s4 ⟨rfl, C4⟩)
      | (go_at_call 13; refine (awake_any _).mono ?_; rintro e s5 ⟨rfl, C5⟩))
  all_goals go_wp2_with fail
  all_goals go_ret
  all_goals refine ⟨rfl, ?_⟩
  all_goals (repeat (first | with_reducible exact SS.out.bl | with_reducible exact SS.out.bl.drew | refine below_step ?_ (by assumption)))
set_option maxHeartbeats 8000000 in
set_option maxRecDepth 100000 in
theorem main00 {a b : Nat} {w : World} (ha : Wd.Fits a) (hb : Wd.Fits b) (fP : ¬ Wd.Fits (a + b)) (fM : ¬ Wd.Fits (a * b)) : Calls Tryd.prog 4 #[Wd.U a, Wd.U b] w fun e w' => e = .returned (.bool true) ∧ Below w.heap.size w w' := by
  have flP : ln (a + b) ≤ 64 := Nat.le_trans (ln_add (ln_fits ha) (ln_fits hb)) (by decide)
  have flM : ln (a * b) ≤ 64 := Nat.le_trans (ln_mul (ln_fits ha) (ln_fits hb)) (by decide)
  have KP : Hid (∀ (W : World) (G J : Option Addr) (g i j t : Nat), Lim W G g i (limbs a) → Lim W J j t (limbs b) → Calls Tryd.prog 25 #[.slice G g i, .slice J j t] W fun e w' => RetE (a + b) 0 W e w') := fun W G J g i j t h h' => by
    have := add_any h h' (Nat.le_trans (ln_fits ha) (by decide)) (Nat.le_trans (ln_fits hb) (by decide))
    rwa [fitN_yes flP, fitE_yes flP] at this
  have KM : Hid (∀ (W : World) (G J : Option Addr) (g i j t : Nat), Lim W G g i (limbs a) → Lim W J j t (limbs b) → Calls Tryd.prog 26 #[.slice G g i, .slice J j t] W fun e w' => RetE (a * b) 0 W e w') := fun W G J g i j t h h' => by
    have := mul_any h h' (Nat.le_trans (ln_fits ha) (by decide)) (Nat.le_trans (ln_fits hb) (by decide))
    rwa [fitN_yes flM, fitE_yes flM] at this
  have KWP : Hid (∀ W, Calls Tryd.prog 27 #[Wd.U a, Wd.U b] W fun e w' => e = .returned (.tuple #[Wd.U (0), .bool false]) ∧ Below W.heap.size W w') := fun W => by
    have := Wd.add_bel a b ha hb W
    rwa [Wd.cut_no fP, Wd.fitsB_no fP] at this
  have KBP : Hid (∀ (W : World) (G : Option Addr) (g i : Nat), Lim W G g i (limbs (a + b)) → Calls Tryd.prog 28 #[.slice G g i] W fun e w' => e = .returned (.int .i64 ((bl (a + b) : Nat) : Int)) ∧ W = w') := fun W G g i h => bits_any h flP
  have iP : ¬ ((bl (a + b) : Nat) : Int) ≤ 128 := bl_over fP
  have KWM : Hid (∀ W, Calls Tryd.prog 29 #[Wd.U a, Wd.U b] W fun e w' => e = .returned (.tuple #[Wd.U (0), .bool false]) ∧ Below W.heap.size W w') := fun W => by
    have := Wd.mul_any a b ha hb W
    rwa [Wd.cut_no fM, Wd.fitsB_no fM] at this
  have KBM : Hid (∀ (W : World) (G : Option Addr) (g i : Nat), Lim W G g i (limbs (a * b)) → Calls Tryd.prog 28 #[.slice G g i] W fun e w' => e = .returned (.int .i64 ((bl (a * b) : Nat) : Int)) ∧ W = w') := fun W G g i h => bits_any h flM
  have iM : ¬ ((bl (a * b) : Nat) : Int) ≤ 128 := bl_over fM
  have KA : Hid (∀ W, Calls Tryd.prog 24 #[Wd.U a] W fun e w' => RetN a W e w') := fun W => fromU ha W
  have KB : Hid (∀ W, Calls Tryd.prog 24 #[Wd.U b] W fun e w' => RetN b W e w') := fun W => fromU hb W
  have KT : Hid (∀ (W : World) (G : Option Addr) (g i : Nat), Lim W G g i (limbs a) → Calls Tryd.prog 21 #[.slice G g i] W fun e w' => e = .returned (.string ⟨(dtext a).toArray⟩) ∧ Below W.heap.size W w') := fun W G g i h => text_any h (Nat.le_trans (ln_fits ha) (by decide))
  have KU : Hid (∀ W, Calls Tryd.prog 30 #[Wd.U a] W fun e w' => e = .returned (.string ⟨(dtext a).toArray⟩) ∧ Below W.heap.size W w') := fun W => by
    have := Wd.text_any a ha W
    rwa [text_same a ((fits_iff a).1 ha)] at this
  have KC : Hid (∀ (W : World) (G J : Option Addr) (g i j t : Nat), Lim W G g i (limbs a) → Lim W J j t (limbs b) → Calls Tryd.prog 31 #[.slice G g i, .slice J j t] W fun e w' => e = .returned (.int .i64 (sgn a b)) ∧ Below W.heap.size W w') := fun W G J g i j t h h' => cmp_bel h h' (Nat.le_trans (ln_fits ha) (by decide)) (Nat.le_trans (ln_fits hb) (by decide))
  have KD : Hid (∀ W, Calls Tryd.prog 32 #[Wd.U a, Wd.U b] W fun e w' => e = .returned (.int .i64 (sgn a b)) ∧ Below W.heap.size W w') := fun W => wcmp a b W
  clear ha hb fP fM flP flM
  generalize sgn a b = sg at *
  generalize (⟨(dtext a).toArray⟩ : ByteArray) = T at *
  generalize a + b = sum at *
  generalize a * b = prod at *
  generalize ((bl sum : Nat) : Int) = bs at *
  generalize ((bl prod : Nat) : Int) = bp at *
  have S := Ws.start w a b
  go_enter Tryd.func4, Tryd.ntmps4
  go_upto_region 1 with fail
  generalize (w.alloc (.cells #[.int .u64 (Wd.hi a), .int .u64 (Wd.lo a)] 26)).alloc (.cells #[.int .u64 (Wd.hi b), .int .u64 (Wd.lo b)] 26) = w0 at *
  have a0 := S.a0; have a1 := S.a1; have b0 := S.b0; have b1 := S.b1
  have CC := Lib.hid (fun (W : World) (hb : Below _ _ W) => (⟨keep_cell hb S.a0, keep_cell hb S.a1, keep_cell hb S.b0, keep_cell hb S.b1⟩ : W.cell? ⟨w.heap.size, 0, none⟩ = some (.int .u64 (Wd.hi a)) ∧ W.cell? ⟨w.heap.size, 1, none⟩ = some (.int .u64 (Wd.lo a)) ∧ W.cell? ⟨w.heap.size + 1, 0, none⟩ = some (.int .u64 (Wd.hi b)) ∧ W.cell? ⟨w.heap.size + 1, 1, none⟩ = some (.int .u64 (Wd.lo b))))
  have SS := Lib.hid S
  clear S a0 a1 b0 b1
  go_region_held3 (fun W => W.cell? ⟨w.heap.size, 0, none⟩ = some (.int .u64 (Wd.hi a)) ∧ W.cell? ⟨w.heap.size, 1, none⟩ = some (.int .u64 (Wd.lo a)) ∧ W.cell? ⟨w.heap.size + 1, 0, none⟩ = some (.int .u64 (Wd.hi b)) ∧ W.cell? ⟨w.heap.size + 1, 1, none⟩ = some (.int .u64 (Wd.lo b)))
    ((refine CC.out _ ?_; repeat (first | with_reducible exact Below.refl _ _ | with_reducible exact (Below.refl _ _).drew | refine below_step ?_ (by assumption))))
    (first
      | (go_at_call 24; (with_reducible refine (KA.out _).mono ?_); rintro e r1 ⟨A1, n1, c1, rfl, L1, C1⟩)
      | (go_at_call 24; (with_reducible refine (KB.out _).mono ?_); rintro e r2 ⟨A2, n2, c2, rfl, L2, C2⟩))
  have S := (SS.out.next (Below.refl _ _).drew).next C1 |>.next C2
  have L1 := L1.next C2
  clear SS CC C1 C2 KA KB
  have a0 := S.a0; have a1 := S.a1; have b0 := S.b0; have b1 := S.b1
  go_wp2_with fail
  refine (KP.out _ _ _ _ _ _ _ L1 L2).mono ?_
  clear KP a0 a1 b0 b1
  rintro e r3 ⟨A3, n3, c3, rfl, L3, C1⟩
  have S := S.next C1; have L1 := L1.next C1; have L2 := L2.next C1
  clear C1
  have a0 := S.a0; have a1 := S.a1; have b0 := S.b0; have b1 := S.b1
  go_wp2_with fail
  refine (KM.out _ _ _ _ _ _ _ L1 L2).mono ?_
  clear KM a0 a1 b0 b1
  rintro e r4 ⟨A4, n4, c4, rfl, L4, C1⟩
  have S := S.next C1; have L1 := L1.next C1; have L2 := L2.next C1; have L3 := L3.next C1
  clear C1
  have a0 := S.a0; have a1 := S.a1; have b0 := S.b0; have b1 := S.b1
  go_wp2_with fail
  refine (KWP.out _).mono ?_
  clear KWP a0 a1 b0 b1
  rintro e r5 ⟨rfl, C1⟩
  have S := S.next C1; have L1 := L1.next C1; have L2 := L2.next C1; have L3 := L3.next C1; have L4 := L4.next C1
  clear C1
  have C1 : Below r5.heap.size r5 (r5.alloc (.cells #[.int .u64 (Wd.hi 0), .int .u64 (Wd.lo 0)] 26)) := (Below.refl _ _).alloc (Nat.le_refl _) _
  have S := S.next C1; have L1 := L1.next C1; have L2 := L2.next C1; have L3 := L3.next C1; have L4 := L4.next C1
  clear C1
  generalize hv : r5.alloc (.cells #[.int .u64 (Wd.hi 0), .int .u64 (Wd.lo 0)] 26) = v5 at *
  have a0 := S.a0; have a1 := S.a1; have b0 := S.b0; have b1 := S.b1
  go_wp2_with fail
  clear hv
  refine (KBP.out _ _ _ _ L3).mono ?_
  clear KBP
  rintro e w' ⟨rfl, rfl⟩
  go_wp2_with fail
  refine (KWM.out _).mono ?_
  clear KWM a0 a1 b0 b1
  rintro e r8 ⟨rfl, C1⟩
  have S := S.next C1; have L1 := L1.next C1; have L2 := L2.next C1; have L3 := L3.next C1; have L4 := L4.next C1
  clear C1
  have C1 : Below r8.heap.size r8 (r8.alloc (.cells #[.int .u64 (Wd.hi 0), .int .u64 (Wd.lo 0)] 26)) := (Below.refl _ _).alloc (Nat.le_refl _) _
  have S := S.next C1; have L1 := L1.next C1; have L2 := L2.next C1; have L3 := L3.next C1; have L4 := L4.next C1
  clear C1
  generalize hv : r8.alloc (.cells #[.int .u64 (Wd.hi 0), .int .u64 (Wd.lo 0)] 26) = v8 at *
  have a0 := S.a0; have a1 := S.a1; have b0 := S.b0; have b1 := S.b1
  go_wp2_with fail
  clear hv
  refine (KBM.out _ _ _ _ L4).mono ?_
  clear KBM
  rintro e w' ⟨rfl, rfl⟩
  go_upto_region 10 with fail
  have H1 := Lib.hid L1; have H2 := Lib.hid L2
  clear L3 L4
  have KT := Lib.hid (fun (W : World) (hb : Below _ _ W) => KT.out W _ _ _ (L1.next hb))
  have KC := Lib.hid (fun (W : World) (hb : Below _ _ W) => KC.out W _ _ _ _ _ _ (L1.next hb) (L2.next hb))
  clear L1 L2 H1 H2
  have CC := Lib.hid (fun (W : World) (hb : Below _ _ W) => (⟨keep_cell hb S.a0, keep_cell hb S.a1, keep_cell hb S.b0, keep_cell hb S.b1⟩ : W.cell? ⟨w.heap.size, 0, none⟩ = some (.int .u64 (Wd.hi a)) ∧ W.cell? ⟨w.heap.size, 1, none⟩ = some (.int .u64 (Wd.lo a)) ∧ W.cell? ⟨w.heap.size + 1, 0, none⟩ = some (.int .u64 (Wd.hi b)) ∧ W.cell? ⟨w.heap.size + 1, 1, none⟩ = some (.int .u64 (Wd.lo b))))
  have SS := Lib.hid S
  clear S a0 a1 b0 b1
  go_region_held3 (fun W => W.cell? ⟨w.heap.size, 0, none⟩ = some (.int .u64 (Wd.hi a)) ∧ W.cell? ⟨w.heap.size, 1, none⟩ = some (.int .u64 (Wd.lo a)) ∧ W.cell? ⟨w.heap.size + 1, 0, none⟩ = some (.int .u64 (Wd.hi b)) ∧ W.cell? ⟨w.heap.size + 1, 1, none⟩ = some (.int .u64 (Wd.lo b)))
    ((refine CC.out _ ?_; repeat (first | with_reducible exact Below.refl _ _ | with_reducible exact (Below.refl _ _).drew | refine below_step ?_ (by assumption))))
    (first
      | (go_at_call 21; (with_reducible refine (KT.out _ ?_).mono ?_); (· repeat (first | with_reducible exact Below.refl _ _ | with_reducible exact (Below.refl _ _).drew | refine below_step ?_ (by assumption))); rintro e s1 ⟨rfl, C1⟩)
      | (go_at_call 30; (with_reducible refine (KU.out _).mono ?_); rintro e s2 ⟨rfl, C2⟩)
      | (go_at_call 31; (with_reducible refine (KC.out _ ?_).mono ?_); (· repeat (first | with_reducible exact Below.refl _ _ | with_reducible exact (Below.refl _ _).drew | refine below_step ?_ (by assumption))); rintro e s3 ⟨rfl, C3⟩)
      | (go_at_call 32; (with_reducible refine (KD.out _).mono ?_); rintro e s4 ⟨rfl, C4⟩)
      | (go_at_call 13; refine (awake_any _).mono ?_; rintro e s5 ⟨rfl, C5⟩))
  all_goals go_wp2_with fail
  all_goals go_ret
  all_goals refine ⟨rfl, ?_⟩
  all_goals (repeat (first | with_reducible exact SS.out.bl | with_reducible exact SS.out.bl.drew | refine below_step ?_ (by assumption)))
theorem walk {w : World} (h l h' l' : Nat) (hh : h < 18446744073709551616) (hl : l < 18446744073709551616) (hh' : h' < 18446744073709551616) (hl' : l' < 18446744073709551616) : Calls Tryd.prog 4 #[.agg #[.int .u64 (h : Int), .int .u64 (l : Int)], .agg #[.int .u64 (h' : Int), .int .u64 (l' : Int)]] w fun e w' => e = .returned (.bool true) ∧ Below w.heap.size w w' := by
  have e : ∀ x y : Nat, x < 18446744073709551616 → y < 18446744073709551616 → Wd.Fits (x * 18446744073709551616 + y) ∧ Value.agg #[.int .u64 (x : Int), .int .u64 (y : Int)] = Wd.U (x * 18446744073709551616 + y) := fun x y hx hy => by
    refine ⟨(fits_iff _).2 (by omega), ?_⟩
    rw [U_words, show (x * 18446744073709551616 + y) / 18446744073709551616 = x by omega, show (x * 18446744073709551616 + y) % 18446744073709551616 = y by omega]
  obtain ⟨fa, ea⟩ := e h l hh hl
  obtain ⟨fb, eb⟩ := e h' l' hh' hl'
  rw [ea, eb]
  by_cases p : Wd.Fits (h * 18446744073709551616 + l + (h' * 18446744073709551616 + l'))
  · by_cases m : Wd.Fits ((h * 18446744073709551616 + l) * (h' * 18446744073709551616 + l'))
    · exact main11 fa fb p m
    · exact main10 fa fb p m
  · by_cases m : Wd.Fits ((h * 18446744073709551616 + l) * (h' * 18446744073709551616 + l'))
    · exact main01 fa fb p m
    · exact main00 fa fb p m

set_option maxRecDepth 100000 in
theorem lifted (os : Os) (started : os.Started) (H : Type) (enc : TypeId × Value → H) :
    ReturnsInHanded {} Tryd.checked os 4 .any (fun w args => (Rows.natWideSpec.pre enc Tryd.prog Tryd.f4 Rows.natWideRow.domain false w args ∧ laidMetH Tryd.prog Rows.natWideRow.laid w) ∧ sizedMet enc Tryd.prog Tryd.f4 (OpenSpec.ofChange Rows.natWideSpec) false w args)
      (Rows.natWideSpec.post enc Tryd.prog Tryd.f4 false true false false) := by
  refine returnsInHanded_of_change_and (C := Tryd.checked) (X := fun w _ => laidMetH Tryd.prog Rows.natWideRow.laid w) (fun _ _ _ hh h => h.of_heap hh) own started (by kernel_rfl) Tryd.func4
    (ChangeSpec.witness_shaped (enc := enc) (C := Tryd.checked) (os := os) (X := fun w _ => laidMetH Tryd.prog Rows.natWideRow.laid w) false (World.laidAll Tryd.prog os Rows.natWideRow.laid) #[.agg #[.int .u64 0, .int .u64 0], .agg #[.int .u64 0, .int .u64 0]] 8 (World.laidAll_os _ _ _)
      (World.shaped_of_ZipB (by kernel_rfl) (by kernel_rfl)) (by kernel_rfl) (by kernel_rfl) (by kernel_rfl)
      (by rw [MakeChecks.laidMetH_plain _ _ _ (by kernel_rfl)]; exact laidMet_laidAll _ (by kernel_rfl) (by kernel_rfl))) ?_
  intro W base args ds gs before hval0 hW _ _ _ _
  have hval : ∀ (j : Nat) t v, Tryd.f4.params[j]? = some t → args[j]? = some v → Value.okWide Tryd.prog W .any base t v := hval0
  have hW' := hW
  obtain ⟨p, q, hA0, hV, rfl, _, _⟩ := hW
  have hA : DataW.TrodAll enc Tryd.prog W 0 (fun _ => true) true Tryd.f4.params.toList args.toList ds p := hA0
  rw [Tryd.params4] at hA hval
  obtain ⟨v0, v1, d0, d1, p0, p1, rfl, rfl, rfl, h0t, h1t⟩ := trodAll_two hA
  obtain ⟨rfl, rfl⟩ := trodVars_none hV
  obtain ⟨u0, l0, rfl, hu0, hl0⟩ := open_wide (hval 0 26 v0 rfl rfl) h0t
  obtain ⟨u1, l1, rfl, hu1, hl1⟩ := open_wide (hval 1 26 v1 rfl rfl) h1t
  clear hA0 hval0
  simp only [List.append_nil] at hW'
  have hlt : ∀ x ∈ p0 ++ p1, x.block < W.heap.size := fun x hx => by simpa using hW'.lt x (by simpa using hx)
  refine (walk u0 l0 u1 l1 hu0 hl0 hu1 hl1).mono fun e W' ⟨he, hbl⟩ => ?_
  subst he
  refine ⟨_, rfl, post_args hW' (fun _ _ _ => trodAll_mk1 (shut_bool Tryd.underlying4 _)) ?_ (fun _ => rfl) hbl⟩
  have t0 := Below.trod laidOut readable_wide typed_wide h0t hbl (fun x hx => hlt x (List.mem_append_left _ hx))
  have t1 := Below.trod laidOut readable_wide typed_wide h1t hbl (fun x hx => hlt x (List.mem_append_right _ hx))
  exact trodAll_mk2 t0 t1

theorem holds : Rows.NatWideSaid :=
  OpenClaim.holds_of_wide 4 Tryd.f4 rfl rfl rfl rfl rfl rfl rfl ⟨rfl, rfl, rfl, rfl, rfl⟩ rfl rfl rfl rfl rfl (by kernel_rfl) Tryd.func4 (by kernel_rfl)
    (of_decide_eq_true (by kernel_rfl)) (by unfold Func.isWrapper; first | (rw [if_pos (by decide +kernel)]; kernel_rfl) | (rw [if_neg (by decide +kernel)]; exact ⟨rfl, rfl⟩))
    (fun os started H enc _ => lifted os started H enc)
theorem proved : Rows.NatWideCardSaid :=
  Claim7.holds_tied_plain_at .later [] [.data, .pinned] true (true, "7bac054c24a4a5cdd971a304af75554519beee4c5270e6492823ef9c09dcec6f") false
    holds (fun _ h => by cases h) (by kernel_rfl) (fun _ h => by cases h) natWide_row_tie rfl ⟨rfl, rfl⟩ (by kernel_rfl) rfl
    (fun f fn hf hfn => by
      obtain rfl : f = 4 := Option.some.inj ((show Tryd.prog.funcNamed "samphire/samphirelaw02.NatWide" = some 4 by kernel_rfl).symm.trans hf) |>.symm
      obtain rfl : fn = Tryd.f4 := (Option.some.inj (Tryd.func4.symm.trans hfn)).symm
      exact ⟨by kernel_rfl, fun j t ht => by
        rw [Tryd.params4] at ht
        rcases j with _ | _ | j
        · obtain rfl : t = 26 := by simpa using ht.symm
          exact (show Tryd.prog.wantsStandIn 26 = false by kernel_rfl)
        · obtain rfl : t = 26 := by simpa using ht.symm
          exact (show Tryd.prog.wantsStandIn 26 = false by kernel_rfl)
        · simp at ht⟩)
    (by kernel_rfl)
#print axioms proved
end Go.Proofs.YtnacokogihanoaaDoor.natWide
