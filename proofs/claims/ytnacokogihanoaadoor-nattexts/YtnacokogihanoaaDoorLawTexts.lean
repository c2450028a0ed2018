/- For all limbs, every text and every number of 128 bits the law NatTexts answers true: the text of any limbs, and the natural of any text, or that there is none, are what the document says; so are numbers of 64 and of 128 bits. No condition beyond the row; the tables of unicode/utf8 start as the program lays them (tied). -/
import Derived.ChangeMaps5
import Derived.Test.YtnacokogihanoaaDoorTextsPre
import Derived.Test.YtnacokogihanoaaDoorRefText
import Derived.Test.YtnacokogihanoaaDoorRefOf
namespace Go.Proofs.YtnacokogihanoaaDoor.natTexts
open Go.ChangeShapes Go.WideShapes Go.ChangeAt Go.RowKit
open Go.Proofs.YtnacokogihanoaaDoor
set_option linter.unusedVariables false
set_option linter.unusedSimpArgs false

theorem below_al {w W : World} (h : Below w.heap.size w W) (o : Obj) : Below w.heap.size w (W.alloc o) := h.alloc h.size o
theorem keep_drew {w : World} {p : Addr} {v : Value} (h : w.cell? p = some v) : w.drew.cell? p = some v := h
theorem lim_threed (w : World) : Lim (w.drew.alloc (.cells #[.int .u32 0, .int .u32 0, .int .u32 1] 37)) (some ⟨w.heap.size, 0, none⟩) 3 3 [0, 0, 1] := lim_three w.drew
theorem same_yes {A A' : Option Addr} {n c n' c' : Nat} {xs : List Nat} {w : World} (ha : Lim w A n c xs) (hb : Lim w A' n' c' xs) : Calls Tryd.prog 22 #[.slice A n c, .slice A' n' c'] w fun e w' => e = .returned (.bool true) ∧ Below w.heap.size w w' := by
  have := same_bel ha hb
  rwa [sameB_yes] at this
theorem cells_wide : Tryd.prog.cellsOf 26 = 2 := by kernel_rfl
theorem readable_wide : Tryd.prog.readableRec 26 = true := by kernel_rfl
theorem typed_wide : 26 < Tryd.prog.types.size := of_decide_eq_true (by kernel_rfl)
theorem readable_str : Tryd.prog.readableRec 9 = true := by kernel_rfl
theorem typed_str : 9 < Tryd.prog.types.size := of_decide_eq_true (by kernel_rfl)
set_option maxRecDepth 100000 in
/-- An argument that is two words, opened. -/
theorem open_wide {H : Type} {enc : TypeId × Value → H} {W : World} {base : Nat} {v : Value} {d : DataW H} {p : List MemPlace} (hv : Value.okWide Tryd.prog W .any base 26 v)
    (h : DataW.Trod enc Tryd.prog W 0 (fun _ => true) true 26 v d p) : ∃ h l : Nat, v = .agg #[.int .u64 (h : Int), .int .u64 (l : Int)] ∧ h < 18446744073709551616 ∧ l < 18446744073709551616 := by
  obtain ⟨c0, c1, y0, y1, m, rfl, rfl, rfl, hy0, hy1⟩ := Go.Joins.open_agg2 Tryd.underlying26 (by kernel_rfl) cells_wide hv h
  obtain ⟨a, e0, rfl, wa⟩ := DataW.trod_int Tryd.underlying24 hy0
  obtain ⟨b, e1, rfl, wb⟩ := DataW.trod_int Tryd.underlying24 hy1
  simp at e0 e1
  subst e0 e1
  have ha := bounds_u64 wa
  have hb := bounds_u64 wb
  refine ⟨a.toNat, b.toNat, ?_, by omega, by omega⟩
  rw [show ((a.toNat : Nat) : Int) = a by omega, show ((b.toNat : Nat) : Int) = b by omega]
set_option maxHeartbeats 8000000 in
set_option maxRecDepth 100000 in
theorem long1 {A : Option Addr} {n c : Nat} {xs : List Nat} {w : World} (ha : Lim w A n c xs) (s : ByteArray) (h l : Nat) (hh : h < 18446744073709551616) (hl : l < 18446744073709551616) (z : ¬ n ≤ 70) : Calls Tryd.prog 3 #[.slice A n c, .string s, .agg #[.int .u64 (h : Int), .int .u64 (l : Int)]] w fun e w' => e = .returned (.bool true) ∧ Below w.heap.size w w' := by
  have B0 : Below w.heap.size w (w.alloc (.cells #[.int .u64 (h : Int), .int .u64 (l : Int)] 26)) := (Below.refl _ _).alloc (Nat.le_refl _) _
  have c0 : (w.alloc (.cells #[.int .u64 (h : Int), .int .u64 (l : Int)] 26)).cell? ⟨w.heap.size, 0, none⟩ = some (.int .u64 (h : Int)) := by simp [go_sem]
  have c1 : (w.alloc (.cells #[.int .u64 (h : Int), .int .u64 (l : Int)] 26)).cell? ⟨w.heap.size, 1, none⟩ = some (.int .u64 (l : Int)) := by simp [go_sem]
  have K1 := Lib.hid (fun W => refSmall_no A n c W z)
  clear z ha hh hl
  go_enter Tryd.func3, Tryd.ntmps3
  go_wp2_with fail
  generalize w.alloc (.cells #[.int .u64 (h : Int), .int .u64 (l : Int)] 26) = w0 at *
  refine (K1.out _).mono ?_
  rintro e w' ⟨rfl, rfl⟩
  go_wp2_with fail
  refine (awake_any _).mono ?_
  rintro e w1 ⟨rfl, B1⟩
  go_wp2_with fail
  go_ret
  exact ⟨rfl, below_step B0 B1⟩
set_option maxHeartbeats 8000000 in
set_option maxRecDepth 100000 in
theorem long2 {A : Option Addr} {n c : Nat} {xs : List Nat} {w : World} (ha : Lim w A n c xs) (s : ByteArray) (h l : Nat) (hh : h < 18446744073709551616) (hl : l < 18446744073709551616) (z0 : n ≤ 70) (z : 800 < s.size) : Calls Tryd.prog 3 #[.slice A n c, .string s, .agg #[.int .u64 (h : Int), .int .u64 (l : Int)]] w fun e w' => e = .returned (.bool true) ∧ Below w.heap.size w w' := by
  have B0 : Below w.heap.size w (w.alloc (.cells #[.int .u64 (h : Int), .int .u64 (l : Int)] 26)) := (Below.refl _ _).alloc (Nat.le_refl _) _
  have c0 : (w.alloc (.cells #[.int .u64 (h : Int), .int .u64 (l : Int)] 26)).cell? ⟨w.heap.size, 0, none⟩ = some (.int .u64 (h : Int)) := by simp [go_sem]
  have c1 : (w.alloc (.cells #[.int .u64 (h : Int), .int .u64 (l : Int)] 26)).cell? ⟨w.heap.size, 1, none⟩ = some (.int .u64 (l : Int)) := by simp [go_sem]
  have K1 := Lib.hid (fun W => refSmall_yes A n c W z0)
  have hs' : (800 : Int) < s.size := by omega
  clear z0 z ha hh hl
  go_enter Tryd.func3, Tryd.ntmps3
  go_wp2_with fail
  generalize w.alloc (.cells #[.int .u64 (h : Int), .int .u64 (l : Int)] 26) = w0 at *
  refine (K1.out _).mono ?_
  rintro e w' ⟨rfl, rfl⟩
  go_wp2_with fail
  refine (awake_any _).mono ?_
  rintro e w1 ⟨rfl, B1⟩
  go_wp2_with fail
  go_ret
  exact ⟨rfl, below_step B0 B1⟩
set_option maxHeartbeats 8000000 in
set_option maxRecDepth 100000 in
theorem wrong {A : Option Addr} {n c : Nat} {xs : List Nat} {w : World} (ha : Lim w A n c xs) (s : ByteArray) (h l : Nat) (hh : h < 18446744073709551616) (hl : l < 18446744073709551616) (hn : n ≤ 70) (hs : s.size ≤ 800) (k : ¬ Nt xs) : Calls Tryd.prog 3 #[.slice A n c, .string s, .agg #[.int .u64 (h : Int), .int .u64 (l : Int)]] w fun e w' => e = .returned (.bool true) ∧ Below w.heap.size w w' := by
  obtain ⟨ys, ek, R1, R2⟩ := reads s (by omega)
  have K1 := Lib.hid (fun W => refSmall_yes A n c W hn)
  have K2 := Lib.hid (fun (W : World) (hb : Below w.heap.size w W) => refRight_no (ha.next hb) k)
  have KT := Lib.hid (texts ha k)
  clear k
  have R1 := Lib.hid R1; have R2 := Lib.hid R2
  have hs' : ¬ (800 : Int) < s.size := by omega
  have B0 : Below w.heap.size w (w.alloc (.cells #[.int .u64 (h : Int), .int .u64 (l : Int)] 26)) := (Below.refl _ _).alloc (Nat.le_refl _) _
  have c0 : (w.alloc (.cells #[.int .u64 (h : Int), .int .u64 (l : Int)] 26)).cell? ⟨w.heap.size, 0, none⟩ = some (.int .u64 (h : Int)) := by simp [go_sem]
  have c1 : (w.alloc (.cells #[.int .u64 (h : Int), .int .u64 (l : Int)] 26)).cell? ⟨w.heap.size, 1, none⟩ = some (.int .u64 (l : Int)) := by simp [go_sem]
  clear ha hs hn
  go_enter Tryd.func3, Tryd.ntmps3
  go_wp2_with fail
  generalize w.alloc (.cells #[.int .u64 (h : Int), .int .u64 (l : Int)] 26) = w0 at *
  refine (K1.out _).mono ?_
  rintro e w' ⟨rfl, rfl⟩
  go_wp2_with fail
  refine (K2.out _ B0).mono ?_
  rintro e w' ⟨rfl, rfl⟩
  go_wp2_with fail
  refine (R1.out _).mono ?_
  rintro e w1 ⟨A1, n1, c1', rfl, L1, B1⟩
  have c0 := keep_cell B1 c0; have c1 := keep_cell B1 c1; have B0 := below_step B0 B1
  clear B1
  go_wp2_with fail
  refine (R2.out _).mono ?_
  rintro e w2 ⟨A2, n2, c2', rfl, L2, B1⟩
  have c0 := keep_cell B1 c0; have c1 := keep_cell B1 c1; have B0 := below_step B0 B1; have L1 := L1.next B1
  clear B1 K1 K2 R1 R2
  go_upto_region 8 with fail
  have KOl : Hid (∀ W, Calls Tryd.prog 19 #[.int .u64 (l : Int)] W fun e w' => RetN l W e w') := fun W => refOf_any l hl W
  have KOh : Hid (∀ W, Calls Tryd.prog 19 #[.int .u64 (h : Int)] W fun e w' => RetN h W e w') := fun W => refOf_any h hh W
  have KM : Hid (∀ (W : World) (G J : Option Addr) (g i j : Nat), Lim W G g i (limbs h) → Lim W J 3 j [0, 0, 1] → Calls Tryd.prog 20 #[.slice G g i, .slice J 3 j] W fun e w' => RetN (h * 18446744073709551616) W e w') := fun W G J g i j h1 h2 => mul_w h1 hh h2
  have KA : Hid (∀ (W : World) (G J : Option Addr) (g i j t : Nat), Lim W G g i (limbs l) → Lim W J j t (limbs (h * 18446744073709551616)) → Calls Tryd.prog 18 #[.slice G g i, .slice J j t] W fun e w' => RetN (h * 18446744073709551616 + l) W e w') := fun W G J g i j t h1 h2 => add_w h1 hl h2 hh
  have KN : Hid (∀ W, Calls Tryd.prog 23 #[.int .u64 (l : Int)] W fun e w' => RetN l W e w') := fun W => of_any l hl W
  have KF : Hid (∀ W, Calls Tryd.prog 24 #[.agg #[.int .u64 (h : Int), .int .u64 (l : Int)]] W fun e w' => RetN (h * 18446744073709551616 + l) W e w') := fun W => from_any h l hh hl W
  clear hh hl
  generalize h * 18446744073709551616 + l = X at *
  generalize h * 18446744073709551616 = Y at *
  have H1 := Lib.hid L1; have H2 := Lib.hid L2; have HB0 := Lib.hid B0
  clear L1 L2 B0
  go_cut [12] (fun s12 wx => ∃ G g i, s12 = .slice G g i ∧ Lim wx G g i (limbs X) ∧ Below w2.heap.size w2 wx)
  case first =>
    go_region_held3 (fun W => W.cell? ⟨w.heap.size, 0, none⟩ = some (.int .u64 (h : Int)) ∧ W.cell? ⟨w.heap.size, 1, none⟩ = some (.int .u64 (l : Int)))
      ((refine ⟨?_, ?_⟩ <;> (repeat (first | with_reducible exact c0 | with_reducible exact c1 | with_reducible refine keep_drew ?_ | with_reducible refine keep_alloc ?_ _ | with_reducible refine keep_cell (by assumption) ?_))))
      (first
        | (go_at_call 19; (with_reducible refine (KOl.out _).mono ?_); rintro e r1 ⟨E1, e1, d1, rfl, L1, C1⟩)
        | (go_at_call 19; (with_reducible refine (KOh.out _).mono ?_); rintro e r2 ⟨E2, e2, d2, rfl, L2, C2⟩)
        | (go_at_call 20; refine (KM.out _ _ _ _ _ _ ?_ ?_).mono ?_; (· repeat (first | assumption | exact lim_three _ | exact lim_threed _ | with_reducible refine Lim.alloc ?_ _ | refine Lim.next ?_ (by assumption))); (· repeat (first | assumption | exact lim_three _ | exact lim_threed _ | with_reducible refine Lim.alloc ?_ _ | refine Lim.next ?_ (by assumption))); rintro e r3 ⟨E3, e3, d3, rfl, L3, C3⟩)
        | (go_at_call 18; refine (KA.out _ _ _ _ _ _ _ ?_ ?_).mono ?_; (· repeat (first | assumption | exact lim_three _ | exact lim_threed _ | with_reducible refine Lim.alloc ?_ _ | refine Lim.next ?_ (by assumption))); (· repeat (first | assumption | exact lim_three _ | exact lim_threed _ | with_reducible refine Lim.alloc ?_ _ | refine Lim.next ?_ (by assumption))); rintro e r4 ⟨E4, e4, d4, rfl, L4, C4⟩))
    all_goals go_wp2_with fail
    all_goals go_meet
    all_goals go_light
    all_goals refine ⟨_, _, _, rfl, by assumption, ?_⟩
    all_goals (repeat (first | with_reducible exact Below.refl _ _ | with_reducible exact (Below.refl _ _).drew | with_reducible refine below_al ?_ _ | with_reducible refine Below.drew ?_ | refine below_step ?_ (by assumption)))
  case rest =>
    obtain ⟨G, g, i, rfl, LX, BX⟩ := hcut
    have c0 := keep_cell BX c0; have c1 := keep_cell BX c1
    have B0 := below_step HB0.out BX; have L1 := H1.out.next BX; have L2 := H2.out.next BX
    clear H1 H2 HB0 KA KM KOh BX
    go_upto_region 9 with fail
    have SS := Lib.hid B0
    have KT := Lib.hid (fun (W : World) (h : Below _ _ W) => KT.out W (below_step B0 h))
    have KS := Lib.hid (fun (W : World) (h : Below _ _ W) => same_yes (L1.next h) (L2.next h))
    have KX := Lib.hid (fun (W : World) (J : Option Addr) (j t : Nat) (h : Below _ _ W) (hl : Lim W J j t (limbs X)) => same_yes hl (LX.next h))
    have KY : Hid (∀ (W : World) (J J' : Option Addr) (j t j' t' : Nat), Lim W J j t (limbs l) → Lim W J' j' t' (limbs l) → Calls Tryd.prog 22 #[.slice J j t, .slice J' j' t'] W fun e w' => e = .returned (.bool true) ∧ Below W.heap.size W w') := fun W J J' j t j' t' h h' => same_yes h h'
    have CC := Lib.hid (fun (W : World) (hb : Below _ _ W) => (⟨keep_cell hb c0, keep_cell hb c1⟩ : W.cell? ⟨w.heap.size, 0, none⟩ = some (.int .u64 (h : Int)) ∧ W.cell? ⟨w.heap.size, 1, none⟩ = some (.int .u64 (l : Int))))
    clear c0 c1 L1 L2 LX B0
    go_region_held3 (fun W => W.cell? ⟨w.heap.size, 0, none⟩ = some (.int .u64 (h : Int)) ∧ W.cell? ⟨w.heap.size, 1, none⟩ = some (.int .u64 (l : Int)))
      ((refine CC.out _ ?_; repeat (first | with_reducible exact Below.refl _ _ | with_reducible exact (Below.refl _ _).drew | refine below_step ?_ (by assumption))))
      (first
        | (go_at_call 21; (with_reducible refine (KT.out _ ?_).mono ?_); (· repeat (first | with_reducible exact Below.refl _ _ | with_reducible exact (Below.refl _ _).drew | with_reducible refine below_al ?_ _ | with_reducible refine Below.drew ?_ | refine below_step ?_ (by assumption))); rintro e r1 ⟨rfl, C1⟩)
        | (go_at_call 23; (with_reducible refine (KN.out _).mono ?_); rintro e r2 ⟨E2, e2, d2, rfl, M2, C2⟩)
        | (go_at_call 19; (with_reducible refine (KOl.out _).mono ?_); rintro e r3 ⟨E3, e3, d3, rfl, M3, C3⟩)
        | (go_at_call 24; (with_reducible refine (KF.out _).mono ?_); rintro e r4 ⟨E4, e4, d4, rfl, M4, C4⟩)
        | (go_at_call 22; (with_reducible refine (KS.out _ ?_).mono ?_); (· repeat (first | with_reducible exact Below.refl _ _ | with_reducible exact (Below.refl _ _).drew | with_reducible refine below_al ?_ _ | with_reducible refine Below.drew ?_ | refine below_step ?_ (by assumption))); rintro e r5 ⟨rfl, C5⟩)
        | (go_at_call 22; (with_reducible refine (KX.out _ _ _ _ ?_ ?_).mono ?_); (· repeat (first | with_reducible exact Below.refl _ _ | with_reducible exact (Below.refl _ _).drew | with_reducible refine below_al ?_ _ | with_reducible refine Below.drew ?_ | refine below_step ?_ (by assumption))); (· repeat (first | assumption | exact lim_three _ | exact lim_threed _ | with_reducible refine Lim.alloc ?_ _ | refine Lim.next ?_ (by assumption))); rintro e r6 ⟨rfl, C6⟩)
        | (go_at_call 22; (with_reducible refine (KY.out _ _ _ _ _ _ _ ?_ ?_).mono ?_); (· repeat (first | assumption | exact lim_three _ | exact lim_threed _ | with_reducible refine Lim.alloc ?_ _ | refine Lim.next ?_ (by assumption))); (· repeat (first | assumption | exact lim_three _ | exact lim_threed _ | with_reducible refine Lim.alloc ?_ _ | refine Lim.next ?_ (by assumption))); rintro e r7 ⟨rfl, C7⟩)
        | (go_at_call 13; refine (awake_any _).mono ?_; rintro e r8 ⟨rfl, C8⟩))
    all_goals go_wp2_with fail
    all_goals go_ret
    all_goals refine ⟨rfl, ?_⟩
    all_goals (repeat (first | with_reducible exact SS.out | with_reducible exact SS.out.drew | refine below_step ?_ (by assumption)))
set_option maxHeartbeats 8000000 in
set_option maxRecDepth 100000 in
theorem right {A : Option Addr} {n c : Nat} {a : Nat} {w : World} (ha : Lim w A n c (limbs a)) (s : ByteArray) (h l : Nat) (hh : h < 18446744073709551616) (hl : l < 18446744073709551616) (hn : n ≤ 70) (hs : s.size ≤ 800) (la : ln a ≤ 64) : Calls Tryd.prog 3 #[.slice A n c, .string s, .agg #[.int .u64 (h : Int), .int .u64 (l : Int)]] w fun e w' => e = .returned (.bool true) ∧ Below w.heap.size w w' := by
  obtain ⟨ys, ek, R1, R2⟩ := reads s (by omega)
  have K1 := Lib.hid (fun W => refSmall_yes A n c W hn)
  have K2 := Lib.hid (fun (W : World) (hb : Below w.heap.size w W) => refRight_yes (ha.next hb) la)
  have K3 := Lib.hid (fun (W : World) (hb : Below w.heap.size w W) => refText_any (ha.next hb) la)
  have KT : Hid (∀ W, Below w.heap.size w W → Calls Tryd.prog 21 #[.slice A n c] W fun e w' => e = .returned (.string ⟨(dtext a).toArray⟩) ∧ Below W.heap.size W w') := fun W hb => text_any (ha.next hb) la
  clear la
  generalize (⟨(dtext a).toArray⟩ : ByteArray) = T at *
  have R1 := Lib.hid R1; have R2 := Lib.hid R2
  have hs' : ¬ (800 : Int) < s.size := by omega
  have B0 : Below w.heap.size w (w.alloc (.cells #[.int .u64 (h : Int), .int .u64 (l : Int)] 26)) := (Below.refl _ _).alloc (Nat.le_refl _) _
  have c0 : (w.alloc (.cells #[.int .u64 (h : Int), .int .u64 (l : Int)] 26)).cell? ⟨w.heap.size, 0, none⟩ = some (.int .u64 (h : Int)) := by simp [go_sem]
  have c1 : (w.alloc (.cells #[.int .u64 (h : Int), .int .u64 (l : Int)] 26)).cell? ⟨w.heap.size, 1, none⟩ = some (.int .u64 (l : Int)) := by simp [go_sem]
  clear ha hs hn
  go_enter Tryd.func3, Tryd.ntmps3
  go_wp2_with fail
  generalize w.alloc (.cells #[.int .u64 (h : Int), .int .u64 (l : Int)] 26) = w0 at *
  refine (K1.out _).mono ?_
  rintro e w' ⟨rfl, rfl⟩
  go_wp2_with fail
  refine (K2.out _ B0).mono ?_
  rintro e w' ⟨rfl, rfl⟩
  go_wp2_with fail
  refine (K3.out _ B0).mono ?_
  rintro e wt ⟨rfl, B1⟩
  have c0 := keep_cell B1 c0; have c1 := keep_cell B1 c1; have B0 := below_step B0 B1
  clear B1 K3
  go_wp2_with fail
  refine (R1.out _).mono ?_
  rintro e w1 ⟨A1, n1, c1', rfl, L1, B1⟩
  have c0 := keep_cell B1 c0; have c1 := keep_cell B1 c1; have B0 := below_step B0 B1
  clear B1
  go_wp2_with fail
  refine (R2.out _).mono ?_
  rintro e w2 ⟨A2, n2, c2', rfl, L2, B1⟩
  have c0 := keep_cell B1 c0; have c1 := keep_cell B1 c1; have B0 := below_step B0 B1; have L1 := L1.next B1
  clear B1 K1 K2 R1 R2
  go_upto_region 8 with fail
  have KOl : Hid (∀ W, Calls Tryd.prog 19 #[.int .u64 (l : Int)] W fun e w' => RetN l W e w') := fun W => refOf_any l hl W
  have KOh : Hid (∀ W, Calls Tryd.prog 19 #[.int .u64 (h : Int)] W fun e w' => RetN h W e w') := fun W => refOf_any h hh W
  have KM : Hid (∀ (W : World) (G J : Option Addr) (g i j : Nat), Lim W G g i (limbs h) → Lim W J 3 j [0, 0, 1] → Calls Tryd.prog 20 #[.slice G g i, .slice J 3 j] W fun e w' => RetN (h * 18446744073709551616) W e w') := fun W G J g i j h1 h2 => mul_w h1 hh h2
  have KA : Hid (∀ (W : World) (G J : Option Addr) (g i j t : Nat), Lim W G g i (limbs l) → Lim W J j t (limbs (h * 18446744073709551616)) → Calls Tryd.prog 18 #[.slice G g i, .slice J j t] W fun e w' => RetN (h * 18446744073709551616 + l) W e w') := fun W G J g i j t h1 h2 => add_w h1 hl h2 hh
  have KN : Hid (∀ W, Calls Tryd.prog 23 #[.int .u64 (l : Int)] W fun e w' => RetN l W e w') := fun W => of_any l hl W
  have KF : Hid (∀ W, Calls Tryd.prog 24 #[.agg #[.int .u64 (h : Int), .int .u64 (l : Int)]] W fun e w' => RetN (h * 18446744073709551616 + l) W e w') := fun W => from_any h l hh hl W
  clear hh hl
  generalize h * 18446744073709551616 + l = X at *
  generalize h * 18446744073709551616 = Y at *
  have H1 := Lib.hid L1; have H2 := Lib.hid L2; have HB0 := Lib.hid B0
  clear L1 L2 B0
  go_cut [12] (fun s12 wx => ∃ G g i, s12 = .slice G g i ∧ Lim wx G g i (limbs X) ∧ Below w2.heap.size w2 wx)
  case first =>
    go_region_held3 (fun W => W.cell? ⟨w.heap.size, 0, none⟩ = some (.int .u64 (h : Int)) ∧ W.cell? ⟨w.heap.size, 1, none⟩ = some (.int .u64 (l : Int)))
      ((refine ⟨?_, ?_⟩ <;> (repeat (first | with_reducible exact c0 | with_reducible exact c1 | with_reducible refine keep_drew ?_ | with_reducible refine keep_alloc ?_ _ | with_reducible refine keep_cell (by assumption) ?_))))
      (first
        | (go_at_call 19; (with_reducible refine (KOl.out _).mono ?_); rintro e r1 ⟨E1, e1, d1, rfl, L1, C1⟩)
        | (go_at_call 19; (with_reducible refine (KOh.out _).mono ?_); rintro e r2 ⟨E2, e2, d2, rfl, L2, C2⟩)
        | (go_at_call 20; refine (KM.out _ _ _ _ _ _ ?_ ?_).mono ?_; (· repeat (first | assumption | exact lim_three _ | exact lim_threed _ | with_reducible refine Lim.alloc ?_ _ | refine Lim.next ?_ (by assumption))); (· repeat (first | assumption | exact lim_three _ | exact lim_threed _ | with_reducible refine Lim.alloc ?_ _ | refine Lim.next ?_ (by assumption))); rintro e r3 ⟨E3, e3, d3, rfl, L3, C3⟩)
        | (go_at_call 18; refine (KA.out _ _ _ _ _ _ _ ?_ ?_).mono ?_; (· repeat (first | assumption | exact lim_three _ | exact lim_threed _ | with_reducible refine Lim.alloc ?_ _ | refine Lim.next ?_ (by assumption))); (· repeat (first | assumption | exact lim_three _ | exact lim_threed _ | with_reducible refine Lim.alloc ?_ _ | refine Lim.next ?_ (by assumption))); rintro e r4 ⟨E4, e4, d4, rfl, L4, C4⟩))
    all_goals go_wp2_with fail
    all_goals go_meet
    all_goals go_light
    all_goals refine ⟨_, _, _, rfl, by assumption, ?_⟩
    all_goals (repeat (first | with_reducible exact Below.refl _ _ | with_reducible exact (Below.refl _ _).drew | with_reducible refine below_al ?_ _ | with_reducible refine Below.drew ?_ | refine below_step ?_ (by assumption)))
  case rest =>
    obtain ⟨G, g, i, rfl, LX, BX⟩ := hcut
    have c0 := keep_cell BX c0; have c1 := keep_cell BX c1
    have B0 := below_step HB0.out BX; have L1 := H1.out.next BX; have L2 := H2.out.next BX
    clear H1 H2 HB0 KA KM KOh BX
    go_upto_region 9 with fail
    have SS := Lib.hid B0
    have KT := Lib.hid (fun (W : World) (h : Below _ _ W) => KT.out W (below_step B0 h))
    have KS := Lib.hid (fun (W : World) (h : Below _ _ W) => same_yes (L1.next h) (L2.next h))
    have KX := Lib.hid (fun (W : World) (J : Option Addr) (j t : Nat) (h : Below _ _ W) (hl : Lim W J j t (limbs X)) => same_yes hl (LX.next h))
    have KY : Hid (∀ (W : World) (J J' : Option Addr) (j t j' t' : Nat), Lim W J j t (limbs l) → Lim W J' j' t' (limbs l) → Calls Tryd.prog 22 #[.slice J j t, .slice J' j' t'] W fun e w' => e = .returned (.bool true) ∧ Below W.heap.size W w') := fun W J J' j t j' t' h h' => same_yes h h'
    have CC := Lib.hid (fun (W : World) (hb : Below _ _ W) => (⟨keep_cell hb c0, keep_cell hb c1⟩ : W.cell? ⟨w.heap.size, 0, none⟩ = some (.int .u64 (h : Int)) ∧ W.cell? ⟨w.heap.size, 1, none⟩ = some (.int .u64 (l : Int))))
    clear c0 c1 L1 L2 LX B0
    go_region_held3 (fun W => W.cell? ⟨w.heap.size, 0, none⟩ = some (.int .u64 (h : Int)) ∧ W.cell? ⟨w.heap.size, 1, none⟩ = some (.int .u64 (l : Int)))
      ((refine CC.out _ ?_; repeat (first | with_reducible exact Below.refl _ _ | with_reducible exact (Below.refl _ _).drew | refine below_step ?_ (by assumption))))
      (first
        | (go_at_call 21; (with_reducible refine (KT.out _ ?_).mono ?_); (· repeat (first | with_reducible exact Below.refl _ _ | with_reducible exact (Below.refl _ _).drew | with_reducible refine below_al ?_ _ | with_reducible refine Below.drew ?_ | refine below_step ?_ (by assumption))); rintro e r1 ⟨rfl, C1⟩)
        | (go_at_call 23; (with_reducible refine (KN.out _).mono ?_); rintro e r2 ⟨E2, e2, d2, rfl, M2, C2⟩)
        | (go_at_call 19; (with_reducible refine (KOl.out _).mono ?_); rintro e r3 ⟨E3, e3, d3, rfl, M3, C3⟩)
        | (go_at_call 24; (with_reducible refine (KF.out _).mono ?_); rintro e r4 ⟨E4, e4, d4, rfl, M4, C4⟩)
        | (go_at_call 22; (with_reducible refine (KS.out _ ?_).mono ?_); (· repeat (first | with_reducible exact Below.refl _ _ | with_reducible exact (Below.refl _ _).drew | with_reducible refine below_al ?_ _ | with_reducible refine Below.drew ?_ | refine below_step ?_ (by assumption))); rintro e r5 ⟨rfl, C5⟩)
        | (go_at_call 22; (with_reducible refine (KX.out _ _ _ _ ?_ ?_).mono ?_); (· repeat (first | with_reducible exact Below.refl _ _ | with_reducible exact (Below.refl _ _).drew | with_reducible refine below_al ?_ _ | with_reducible refine Below.drew ?_ | refine below_step ?_ (by assumption))); (· repeat (first | assumption | exact lim_three _ | exact lim_threed _ | with_reducible refine Lim.alloc ?_ _ | refine Lim.next ?_ (by assumption))); rintro e r6 ⟨rfl, C6⟩)
        | (go_at_call 22; (with_reducible refine (KY.out _ _ _ _ _ _ _ ?_ ?_).mono ?_); (· repeat (first | assumption | exact lim_three _ | exact lim_threed _ | with_reducible refine Lim.alloc ?_ _ | refine Lim.next ?_ (by assumption))); (· repeat (first | assumption | exact lim_three _ | exact lim_threed _ | with_reducible refine Lim.alloc ?_ _ | refine Lim.next ?_ (by assumption))); rintro e r7 ⟨rfl, C7⟩)
        | (go_at_call 13; refine (awake_any _).mono ?_; rintro e r8 ⟨rfl, C8⟩))
    all_goals go_wp2_with fail
    all_goals go_ret
    all_goals refine ⟨rfl, ?_⟩
    all_goals (repeat (first | with_reducible exact SS.out | with_reducible exact SS.out.drew | refine below_step ?_ (by assumption)))
theorem walk {A : Option Addr} {n c : Nat} {xs : List Nat} {w : World} (ha : Lim w A n c xs) (s : ByteArray) (h l : Nat) (hh : h < 18446744073709551616) (hl : l < 18446744073709551616) : Calls Tryd.prog 3 #[.slice A n c, .string s, .agg #[.int .u64 (h : Int), .int .u64 (l : Int)]] w fun e w' => e = .returned (.bool true) ∧ Below w.heap.size w w' := by
  by_cases hn : n ≤ 70
  · by_cases hs : s.size ≤ 800
    · by_cases k : Nt xs
      · obtain ⟨l1, la⟩ := nt_lim ha k
        exact right l1 s h l hh hl hn hs la
      · exact wrong ha s h l hh hl hn hs k
    · exact long2 ha s h l hh hl hn (Nat.lt_of_not_le hs)
  · exact long1 ha s h l hh hl hn

set_option maxRecDepth 100000 in
theorem lifted (os : Os) (started : os.Started) (H : Type) (enc : TypeId × Value → H) :
    ReturnsInHanded {} Tryd.checked os 3 .any (fun w args => (Rows.natTextsSpec.pre enc Tryd.prog Tryd.f3 Rows.natTextsRow.domain false w args ∧ laidMetH Tryd.prog Rows.natTextsRow.laid w) ∧ sizedMet enc Tryd.prog Tryd.f3 (OpenSpec.ofChange Rows.natTextsSpec) false w args)
      (Rows.natTextsSpec.post enc Tryd.prog Tryd.f3 false true false false) := by
  refine returnsInHanded_of_change_and (C := Tryd.checked) (X := fun w _ => laidMetH Tryd.prog Rows.natTextsRow.laid w) (fun _ _ _ hh h => h.of_heap hh) own started (by kernel_rfl) Tryd.func3
    (ChangeSpec.witness_shaped (enc := enc) (C := Tryd.checked) (os := os) (X := fun w _ => laidMetH Tryd.prog Rows.natTextsRow.laid w) false (World.laidAll Tryd.prog os Rows.natTextsRow.laid) #[.slice none 0 0, .string ⟨#[]⟩, .agg #[.int .u64 0, .int .u64 0]] 8 (World.laidAll_os _ _ _)
      (World.shaped_of_ZipB (by kernel_rfl) (by kernel_rfl)) (by kernel_rfl) (by kernel_rfl) (by kernel_rfl)
      (by rw [MakeChecks.laidMetH_plain _ _ _ (by kernel_rfl)]; exact laidMet_laidAll _ (by kernel_rfl) (by kernel_rfl))) ?_
  intro W base args ds gs before hval0 hW _ _ _ _
  have hval : ∀ (j : Nat) t v, Tryd.f3.params[j]? = some t → args[j]? = some v → Value.okWide Tryd.prog W .any base t v := hval0
  have hW' := hW
  obtain ⟨p, q, hA0, hV, rfl, _, _⟩ := hW
  have hA : DataW.TrodAll enc Tryd.prog W 0 (fun _ => true) true Tryd.f3.params.toList args.toList ds p := hA0
  rw [Tryd.params3] at hA hval
  obtain ⟨v0, v1, v2, d0, d1, d2, p0, p1, p2, rfl, rfl, rfl, h0t, h1t, h2t⟩ := trodAll_three hA
  obtain ⟨rfl, rfl⟩ := trodVars_none hV
  obtain ⟨B0, b0, c0, xs0, rfl, h0⟩ := open_nat (hval 0 23 v0 rfl rfl) h0t
  obtain ⟨s1, rfl, -, -, hs1⟩ := Go.ChangeMaps.open_string Tryd.underlying9 (hval 1 9 v1 rfl rfl) h1t
  obtain ⟨u2, l2, rfl, hu2, hl2⟩ := open_wide (hval 2 26 v2 rfl rfl) h2t
  clear hA0 hval0
  simp only [List.append_nil] at hW'
  have hlt : ∀ x ∈ p0 ++ p1 ++ p2, x.block < W.heap.size := fun x hx => by simpa using hW'.lt x (by simpa using hx)
  refine (walk h0 s1 u2 l2 hu2 hl2).mono fun e W' ⟨he, hbl⟩ => ?_
  subst he
  refine ⟨_, rfl, post_args hW' (fun _ _ _ => trodAll_mk1 (shut_bool Tryd.underlying4 _)) ?_ (fun _ => rfl) hbl⟩
  have t0 := Below.trod laidOut readable typed h0t hbl (fun x hx => hlt x (List.mem_append_left _ (List.mem_append_left _ hx)))
  have t1 := Below.trod laidOut readable_str typed_str h1t hbl (fun x hx => hlt x (List.mem_append_left _ (List.mem_append_right _ hx)))
  have t2 := Below.trod laidOut readable_wide typed_wide h2t hbl (fun x hx => hlt x (List.mem_append_right _ hx))
  exact (List.append_assoc p0 p1 p2) ▸ trodAll_mk3 t0 t1 t2

theorem holds : Rows.NatTextsSaid :=
  OpenClaim.holds_of_wide 3 Tryd.f3 rfl rfl rfl rfl rfl rfl rfl ⟨rfl, rfl, rfl, rfl, rfl⟩ rfl rfl rfl rfl rfl (by kernel_rfl) Tryd.func3 (by kernel_rfl)
    (of_decide_eq_true (by kernel_rfl)) (by unfold Func.isWrapper; first | (rw [if_pos (by decide +kernel)]; kernel_rfl) | (rw [if_neg (by decide +kernel)]; exact ⟨rfl, rfl⟩))
    (fun os started H enc _ => lifted os started H enc)
theorem proved : Rows.NatTextsCardSaid :=
  Claim7.holds_tied_plain_at .later [] [.data, .pinned] true (true, "7bac054c24a4a5cdd971a304af75554519beee4c5270e6492823ef9c09dcec6f") false
    holds (fun _ h => by cases h) (by kernel_rfl) (fun _ h => by cases h) natTexts_row_tie rfl ⟨rfl, rfl⟩ (by kernel_rfl) rfl
    (fun f fn hf hfn => by
      obtain rfl : f = 3 := Option.some.inj ((show Tryd.prog.funcNamed "samphire/samphirelaw02.NatTexts" = some 3 by kernel_rfl).symm.trans hf) |>.symm
      obtain rfl : fn = Tryd.f3 := (Option.some.inj (Tryd.func3.symm.trans hfn)).symm
      exact ⟨by kernel_rfl, fun j t ht => by
        rw [Tryd.params3] at ht
        rcases j with _ | _ | _ | j
        · obtain rfl : t = 23 := by simpa using ht.symm
          exact (show Tryd.prog.wantsStandIn 23 = false by kernel_rfl)
        · obtain rfl : t = 9 := by simpa using ht.symm
          exact (show Tryd.prog.wantsStandIn 9 = false by kernel_rfl)
        · obtain rfl : t = 26 := by simpa using ht.symm
          exact (show Tryd.prog.wantsStandIn 26 = false by kernel_rfl)
        · simp at ht⟩)
    (by kernel_rfl)
#print axioms proved
end Go.Proofs.YtnacokogihanoaaDoor.natTexts
