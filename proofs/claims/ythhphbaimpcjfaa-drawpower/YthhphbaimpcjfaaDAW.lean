/- The walk of awake: the fixed answer of the stage. -/
import Derived.Test.YthhphbaimpcjfaaDZ
import Derived.Test.YthhphbaimpcjfaaDC
namespace Go.Proofs.Ythhphbaimpcjfaa
open Go.RowKit
set_option linter.unusedVariables false
set_option linter.unusedSimpArgs false
set_option maxHeartbeats 4000000
set_option maxRecDepth 100000
/-- A new block of two cells, written at once. -/
theorem new_box (W : World) (z0 z1 a b : Value) (t : TypeId) : Below W.heap.size W (((W.alloc (.cells #[z0, z1] t)).setCell ⟨W.heap.size, 0, none⟩ a).setCell ⟨W.heap.size, 1, none⟩ b) ∧ Box (((W.alloc (.cells #[z0, z1] t)).setCell ⟨W.heap.size, 0, none⟩ a).setCell ⟨W.heap.size, 1, none⟩ b) W.heap.size #[a, b] := by
  have h := ((One.new W #[z0, z1] t).set 0 a).set 1 b
  exact ⟨h.bl, h.bg⟩
theorem wl_new (w : World) (W0 : List Nat) (vs : Array Value) (h : Lw W0) (e : vs = (W0.map wd).toArray) (n : Nat) (hn : W0.length = n) (ht : n ≤ 9223372036854775807) : Wl (w.alloc (.cells vs 23)) (some ⟨w.heap.size, 0, none⟩) n n W0 := by
  subst e
  refine ⟨hn, Nat.le_refl _, ht, fun j hj => ⟨_, rfl, ?_⟩, h⟩
  rw [add_lit, Nat.zero_add]
  show (match (w.alloc (.cells (W0.map wd).toArray 23)).heap[w.heap.size]? with | some (.cells c _ _) => if (none : Option Nat).isSome then none else c[j]? | _ => none) = _
  rw [heap_alloc_new]
  simp [hj]
theorem mb_5 : mb 5 = 3 := by unfold mb; exact bl_of (k := 2) (by decide) (by decide)
theorem ans_a : ans [13, 14, 9, 2] 0 5 = (1, 3, 0) := by
  refine ans_hit (p := 0) (by decide) (by decide) ?_
  have m1 := mw_small (d := 5) (by decide) (by decide)
  rw [m1, mb_5, tries_next (by decide) (by rw [att_one (by decide)]; decide) (by decide), tries_next (by decide) (by rw [att_one (by decide)]; decide) (by decide), tries_hit (by decide) (by rw [att_one (by decide)]; decide), att_one (by decide)]
  rfl
theorem ans_b : ans [7, 6] 0 5 = (0, 0, 8) := by
  refine ans_dry (p := 0) (by decide) (by decide) ?_
  have m1 := mw_small (d := 5) (by decide) (by decide)
  rw [m1, mb_5, tries_next (by decide) (by rw [att_one (by decide)]; decide) (by decide), tries_next (by decide) (by rw [att_one (by decide)]; decide) (by decide), tries_dry (by decide)]
theorem mb_65 : mb 36893488147419103232 = 65 := by unfold mb; exact bl_of (k := 64) (by decide) (by decide)
theorem val_2 : val [0, 0, 2] = 36893488147419103232 := by rw [val_cons, val_cons, val_cons, val_nil, B_eq]
theorem nt_2 : Nt [0, 0, 2] := ⟨by decide, fun _ => by simp⟩
theorem lo_2 : Lo [0, 0, 2] := .cons (by decide) (.cons (by decide) (.cons (by decide) .nil))
theorem att_c : att [3, 1] 2 65 0 = 18446744073709551619 := by
  unfold att
  rw [List.drop_zero, List.take_of_length_le (by decide), wv_cons, wv_cons, wv_nil, P64_eq]
theorem ans_c : ansN [3, 1] 0 [0, 0, 2] = (18446744073709551619, 2, 0) := by
  rw [ansN_yes nt_2, val_2]
  refine ans_hit (p := 0) (by decide) (by decide) ?_
  have m1 : mw 36893488147419103232 = 2 := by unfold mw; rw [mb_65]
  rw [m1, mb_65, tries_hit (by decide) (by rw [att_c]; decide), att_c]
theorem limbs_c : limbs 18446744073709551619 = [3, 0, 1] := by
  have := limbs_val (xs := [3, 0, 1]) (.cons (by decide) (.cons (by decide) (.cons (by decide) .nil))) (fun _ => by simp)
  rwa [val_cons, val_cons, val_cons, val_nil, B_eq] at this
theorem awake_any (w : World) : Calls Try.prog 9 #[] w fun e w' => e = .returned (.bool true) ∧ Below w.heap.size w w' := by
  have K1 : Hid (∀ (W : World) g, Wl W (some ⟨g, 0, none⟩) 4 4 [13, 14, 9, 2] → Calls Try.prog 10 #[wds (some ⟨g, 0, none⟩) 4 4 0, .int .u64 5] W fun e w' => RetD (some ⟨g, 0, none⟩) 4 4 (1, 3, 0) W e w') := fun W g h => by
    have := below_any (some ⟨g, 0, none⟩) 4 4 5 0 [13, 14, 9, 2] W h (by decide)
    rwa [ans_a] at this
  have K2 : Hid (∀ (W : World) g, Wl W (some ⟨g, 0, none⟩) 2 2 [7, 6] → Calls Try.prog 10 #[wds (some ⟨g, 0, none⟩) 2 2 0, .int .u64 5] W fun e w' => RetD (some ⟨g, 0, none⟩) 2 2 (0, 0, 8) W e w') := fun W g h => by
    have := below_any (some ⟨g, 0, none⟩) 2 2 5 0 [7, 6] W h (by decide)
    rwa [ans_b] at this
  have K3 : Hid (∀ (W : World) g q, Wl W (some ⟨g, 0, none⟩) 2 2 [3, 1] → Lim W (some ⟨q, 0, none⟩) 3 3 [0, 0, 2] → Calls Try.prog 14 #[wds (some ⟨g, 0, none⟩) 2 2 0, .slice (some ⟨q, 0, none⟩) 3 3] W fun e w' => RetB (some ⟨g, 0, none⟩) 2 2 (18446744073709551619, 2, 0) W e w') := fun W g q h k => by
    have := belowNat_any (p := 0) h k
    rwa [ans_c] at this
  have W1 := wl_new w [13, 14, 9, 2] #[.int .u64 13, .int .u64 14, .int .u64 9, .int .u64 2] (.cons (by decide) (.cons (by decide) (.cons (by decide) (.cons (by decide) .nil)))) rfl 4 rfl (by decide)
  have B1 : Below w.heap.size w (w.alloc (.cells #[.int .u64 13, .int .u64 14, .int .u64 9, .int .u64 2] 23)) := (Below.refl _ _).alloc (Nat.le_refl _) _
  have R1 := K1.out _ _ W1
  have R1 := Lib.hid R1
  clear W1
  go_enter Try.func9, Try.ntmps9
  go_wp2_with fail
  refine R1.out.mono ?_
  rintro e w1 ⟨rfl, B2⟩
  replace B1 := below_step B1 B2
  clear B2 R1
  obtain ⟨g0, hg0⟩ : ∃ g0, Hid (w.heap.size = g0) := ⟨_, rfl⟩
  rw [hg0.out]
  have X1 := One.new w1 #[.slice (some ⟨g0, 0, none⟩) 4 4, .int .i64 3] 28
  have Y1 := wl_new (w1.alloc (.cells #[.slice (some ⟨g0, 0, none⟩) 4 4, .int .i64 3] 28)) [7, 6] #[.int .u64 7, .int .u64 6] (.cons (by decide) (.cons (by decide) .nil)) rfl 2 rfl (by decide)
  rw [World.size_alloc] at Y1
  have D1 : Below w1.heap.size w1 ((w1.alloc (.cells #[.slice (some ⟨g0, 0, none⟩) 4 4, .int .i64 3] 28)).alloc (.cells #[.int .u64 7, .int .u64 6] 23)) := ((Below.refl _ _).alloc (Nat.le_refl _) _).alloc (by simp) _
  replace X1 := X1.next ((Below.refl _ _).alloc (Nat.le_refl _) (.cells #[.int .u64 7, .int .u64 6] 23))
  have R2 := Lib.hid (K2.out _ _ Y1)
  replace B1 := below_step B1 D1
  clear Y1 D1
  go_wp2_with fail
  generalize ((w1.alloc (Obj.cells #[Value.slice (some { block := g0, off := 0 }) 4 4, Value.int IntKind.i64 3] 28)).alloc (Obj.cells #[Value.int IntKind.u64 7, Value.int IntKind.u64 6] 23)) = w2 at *
  generalize w1.heap.size + 1 = g2 at *
  have X1 := X1.bg
  generalize w1.heap.size = g1 at *
  refine R2.out.mono ?_
  rintro e w3 ⟨rfl, B2⟩
  replace X1 := X1.next B2
  replace B1 := below_step B1 B2
  clear B2 R2
  have X2 := Box.new w3 #[.slice (some ⟨g2, 0, none⟩) 2 2, .int .i64 0] 28
  have Y2 := wl_new (w3.alloc (.cells #[.slice (some ⟨g2, 0, none⟩) 2 2, .int .i64 0] 28)) [3, 1] #[.int .u64 3, .int .u64 1] (.cons (by decide) (.cons (by decide) .nil)) rfl 2 rfl (by decide)
  rw [World.size_alloc] at Y2
  have Z2 := (Row.new_of ((w3.alloc (.cells #[.slice (some ⟨g2, 0, none⟩) 2 2, .int .i64 0] 28)).alloc (.cells #[.int .u64 3, .int .u64 1] 23)) [0, 0, 2] #[.int .u32 0, .int .u32 0, .int .u32 2] lo_2 rfl).lim (o := 0) (n := 3) (c := 3) (by decide) (Nat.le_refl _) (by decide)
  rw [List.drop_zero, List.take_of_length_le (by decide), World.size_alloc, World.size_alloc] at Z2
  replace Y2 := Y2.alloc (.cells #[.int .u32 0, .int .u32 0, .int .u32 2] 48)
  replace X2 := (X2.alloc (.cells #[.int .u64 3, .int .u64 1] 23)).alloc (.cells #[.int .u32 0, .int .u32 0, .int .u32 2] 48)
  have D2 : Below w3.heap.size w3 (((w3.alloc (.cells #[.slice (some ⟨g2, 0, none⟩) 2 2, .int .i64 0] 28)).alloc (.cells #[.int .u64 3, .int .u64 1] 23)).alloc (.cells #[.int .u32 0, .int .u32 0, .int .u32 2] 48)) := (((Below.refl _ _).alloc (Nat.le_refl _) _).alloc (by simp) _).alloc (by simp; omega) _
  replace X1 := X1.next D2
  replace B1 := below_step B1 D2
  have R3 := Lib.hid (K3.out _ _ _ Y2 Z2)
  clear Y2 Z2 D2
  go_wp2_with fail
  generalize (((w3.alloc (Obj.cells #[Value.slice (some { block := g2, off := 0 }) 2 2, Value.int IntKind.i64 0] 28)).alloc (Obj.cells #[Value.int IntKind.u64 3, Value.int IntKind.u64 1] 23)).alloc (Obj.cells #[Value.int IntKind.u32 0, Value.int IntKind.u32 0, Value.int IntKind.u32 2] 48)) = w4 at *
  generalize w3.heap.size + 1 + 1 = g5 at *
  generalize w3.heap.size + 1 = g4 at *
  generalize w3.heap.size = g3 at *
  refine R3.out.mono ?_
  rintro e w5 ⟨A, n, c, rfl, L, B3⟩
  rw [limbs_c] at L
  replace X1 := X1.next B3
  replace X2 := X2.next B3
  replace B1 := below_step B1 B3
  clear B3 R3 K1 K2 K3 hg0
  have X3 := Box.new w5 #[.slice (some ⟨g4, 0, none⟩) 2 2, .int .i64 2] 28
  have Z3 := (Row.new_of (w5.alloc (.cells #[.slice (some ⟨g4, 0, none⟩) 2 2, .int .i64 2] 28)) [3, 0, 1] #[.int .u32 3, .int .u32 0, .int .u32 1] (.cons (by decide) (.cons (by decide) (.cons (by decide) .nil))) rfl).lim (o := 0) (n := 3) (c := 3) (by decide) (Nat.le_refl _) (by decide)
  rw [List.drop_zero, List.take_of_length_le (by decide), World.size_alloc] at Z3
  replace X3 := X3.alloc (.cells #[.int .u32 3, .int .u32 0, .int .u32 1] 48)
  have D3 : Below w5.heap.size w5 ((w5.alloc (.cells #[.slice (some ⟨g4, 0, none⟩) 2 2, .int .i64 2] 28)).alloc (.cells #[.int .u32 3, .int .u32 0, .int .u32 1] 48)) := ((Below.refl _ _).alloc (Nat.le_refl _) _).alloc (by simp) _
  have D4 : Below w5.heap.size w5 (w5.alloc (.cells #[.slice (some ⟨g4, 0, none⟩) 2 2, .int .i64 2] 28)) := (Below.refl _ _).alloc (Nat.le_refl _) _
  have x1 := (X1.next D4).cell (i := 1) rfl
  have x2 := (X2.next D4).cell (i := 1) rfl
  have KS := same_bel (L.next D3) Z3
  rw [sameB_yes] at KS
  have KS := Lib.hid KS
  replace X1 := X1.next D3
  replace B1 := below_step B1 D3
  clear D3 D4 L Z3
  go_wp2_with fail
  refine KS.out.mono ?_
  rintro e w6 ⟨rfl, B4⟩
  replace X1 := X1.next B4
  replace X3 := X3.next B4
  replace B1 := below_step B1 B4
  clear B4 KS x1 x2
  obtain ⟨y0, y1⟩ := X1.two
  have y3 := X3.cell (i := 1) rfl
  go_wp2_with fail
  have KL := left_any (some ⟨g0, 0, none⟩) 4 4 3 (by decide) w6
  rw [show left 3 4 = 1 from by unfold left; rw [if_pos (okB_yes (by decide))]; rfl] at KL
  refine KL.mono ?_
  rintro e w7 ⟨rfl, B5⟩
  go_wp2_with fail
  go_ret
  exact ⟨rfl, below_step B1 B5⟩
end Go.Proofs.Ythhphbaimpcjfaa
