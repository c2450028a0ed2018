/- The walks of package wide: Of, Full, compare, Cmp, Add, Sub. -/
import Derived.Test.YtnacokogihanoaaDoorRows
import Derived.Test.YtnacokogihanoaaDoorShelf
import Derived.Test.YtnacokogihanoaaDoorWMath
import Derived.WalkKit
import Derived.WalkSpells
import Derived.Laws.Externs
import Derived.Lib.Hide
import Derived.Shelf.Spec.BitsCarry
namespace Go.Proofs.YtnacokogihanoaaDoor.Wd
open Go.RowKit

theorem add64 (x y c : Int) (hx : 0 ≤ x) (hy : 0 ≤ y) (hc0 : 0 ≤ c) (hc : c ≤ 1) (w : World) : (callFunc 69 #[.int .u64 x, .int .u64 y, .int .u64 c]).run Tryd.prog w =
    .ok (.value (.tuple #[.int .u64 ((x + y + c) % 18446744073709551616), .int .u64 ((x + y + c) / 18446744073709551616)])) w := by
  rw [run_callFunc_extern Tryd.func69 (by kernel_rfl) (by kernel_rfl) (by kernel_rfl) (e := add64Entry) (by kernel_rfl), run_add64 x y c hx hy hc0 hc]
  rfl
theorem add64_0 (x y : Int) (hx : 0 ≤ x) (hy : 0 ≤ y) (w : World) : (callFunc 69 #[.int .u64 x, .int .u64 y, .int .u64 0]).run Tryd.prog w =
    .ok (.value (.tuple #[.int .u64 ((x + y) % 18446744073709551616), .int .u64 ((x + y) / 18446744073709551616)])) w := by
  simpa using add64 x y 0 hx hy (Int.le_refl 0) (by decide) w

/-- A number of 128 bits as a value. -/
abbrev U (n : Nat) : Value := .agg #[.int .u64 (hi n), .int .u64 (lo n)]

/-- What is told of other spellings of the arguments. -/
theorem calls_at1 {P : Program} {f : FuncId} {x x' : Value} {w : World} {Q : Ending → World → Prop} (hx : x = x') (h : Calls P f #[x'] w Q) : Calls P f #[x] w Q := by rw [hx]; exact h
theorem calls_at2 {P : Program} {f : FuncId} {x y x' y' : Value} {w : World} {Q : Ending → World → Prop} (hx : x = x') (hy : y = y') (h : Calls P f #[x', y'] w Q) : Calls P f #[x, y] w Q := by rw [hx, hy]; exact h
theorem cell_lt {w : World} {p : Addr} {v : Value} (h : w.cell? p = some v) : p.block < w.heap.size := by
  apply Decidable.byContradiction
  intro k
  have e : w.heap[p.block]? = none := by simp; omega
  simp [World.cell?, e] at h
theorem keep_cell {W w1 : World} (hb : Below W.heap.size W w1) {p : Addr} {v : Value} (h : W.cell? p = some v) : w1.cell? p = some v := by
  rw [hb.cell (cell_lt h)]; exact h
theorem U_of {h l : Int} {n : Nat} (e1 : h = hi n) (e2 : l = lo n) : Value.agg #[.int .u64 h, .int .u64 l] = U n := by rw [e1, e2]
/-- What was there stays. -/
theorem keep_alloc {w : World} {p : Addr} {v : Value} (h : w.cell? p = some v) (o : Obj) : (w.alloc o).cell? p = some v := keep_cell ((Below.refl _ _).alloc (Nat.le_refl _) o) h

theorem keep_drew {w : World} {p : Addr} {v : Value} (h : w.cell? p = some v) : w.drew.cell? p = some v := h
theorem keep_frozen {W w1 : World} (hb : Below W.heap.size W w1) {p : Addr} (hp : p.block < W.heap.size) (h : W.frozen? p = false) : w1.frozen? p = false := by
  rw [hb.frozen hp]; exact h
theorem melt_alloc {w : World} {p : Addr} (h : w.frozen? p = false) (c : Array Value) (t : TypeId) : (w.alloc (.cells c t)).frozen? p = false := by
  rw [frozen?_alloc_cells]; exact h
theorem melt_drew {w : World} {p : Addr} (h : w.frozen? p = false) : w.drew.frozen? p = false := h

/-- wide.Full. -/
theorem full_any (x y : Int) (wx : Word x) (wy : Word y) (w : World) :
    Calls Tryd.prog 71 #[.int .u64 x, .int .u64 y] w fun e w' => e = .returned (U (x.toNat * y.toNat)) ∧ ∃ c, w' = w.alloc (.cells c 26) := by
  have hx := wx.nn; have hx' := wx.lt; have hy := wy.nn; have hy' := wy.lt
  clear wx wy
  obtain ⟨x, rfl⟩ := Int.eq_ofNat_of_zero_le hx
  obtain ⟨y, rfl⟩ := Int.eq_ofNat_of_zero_le hy
  rw [Int.toNat_natCast, Int.toNat_natCast]
  have e1 : ((x * y / 18446744073709551616 : Nat) : Int) = hi (x * y) := by unfold hi; rfl
  have e2 : ((x * y % 18446744073709551616 : Nat) : Int) = lo (x * y) := by unfold lo; rfl
  have H1 := Lib.hid e1
  have H2 := Lib.hid e2
  have kx : x < 18446744073709551616 := by omega
  have ky : y < 18446744073709551616 := by omega
  clear e1 e2 hx hx' hy hy'
  go_enter Tryd.func71, Tryd.ntmps71
  go_wp2_with (go_at_call 96; refine (Tryd.bits_Mul64 x y kx ky _).mono ?_; rintro e w' ⟨rfl, rfl⟩; rw [H1.out, H2.out])
  exact bodyPost_ret (v := U (x * y)) (by simp [results, Tryd.results71, go_sem]) rfl ⟨rfl, _, rfl⟩

theorem full_bel (x y : Int) (wx : Word x) (wy : Word y) (w : World) :
    Calls Tryd.prog 71 #[.int .u64 x, .int .u64 y] w fun e w' => e = .returned (U (x.toNat * y.toNat)) ∧ Below w.heap.size w w' :=
  (full_any x y wx wy w).mono fun _ _ ⟨he, _, hw⟩ => ⟨he, by subst hw; exact (Below.refl _ _).alloc (Nat.le_refl _) _⟩
theorem three_bel (w : World) (c1 c2 c3 : Array Value) : Below w.heap.size w (((w.alloc (.cells c1 26)).alloc (.cells c2 26)).alloc (.cells c3 26)) :=
  (((Below.refl _ _).alloc (Nat.le_refl _) _).alloc (by simp) _).alloc (by simp only [World.size_alloc]; omega) _
theorem two_bel (w : World) (c1 c2 : Array Value) : Below w.heap.size w ((w.alloc (.cells c1 26)).alloc (.cells c2 26)) :=
  ((Below.refl _ _).alloc (Nat.le_refl _) _).alloc (by simp) _
/-- A cell that may be written stays so. -/
theorem keep_melt {W w1 : World} {p : Addr} {v : Value} (hb : Below W.heap.size W w1) (hc : W.cell? p = some v) (h : W.frozen? p = false) : w1.frozen? p = false := keep_frozen hb (cell_lt hc) h

theorem keep_set {w : World} {p a : Addr} {v : Value} (h : w.cell? p = some v) (u : Value) (hne : p.block ≠ a.block) : (w.setCell a u).cell? p = some v := by
  rw [World.cell?_of_block (w := w) (Below.heap_setCell w a u p.block hne)]; exact h

/-- wide.compare. -/
theorem compare_any (x y : Int) (w : World) : Calls Tryd.prog 75 #[.int .u64 x, .int .u64 y] w fun e w' => e = .returned (.int .i64 (cmpI x y)) ∧ w = w' := by
  by_cases h1 : x < y
  · have e := Lib.hid (cmpI_lt h1)
    go_enter Tryd.func75, Tryd.ntmps75
    go_wp2
    go_ret
    exact ⟨by rw [e.out]; rfl, rfl⟩
  · by_cases h2 : y < x
    · have e := Lib.hid (cmpI_gt h2)
      go_enter Tryd.func75, Tryd.ntmps75
      go_wp2
      go_ret
      exact ⟨by rw [e.out]; rfl, rfl⟩
    · have e := Lib.hid (cmpI_eq h1 h2)
      go_enter Tryd.func75, Tryd.ntmps75
      go_wp2
      go_ret
      exact ⟨by rw [e.out]; rfl, rfl⟩

/-- wide.Cmp. -/
theorem cmp_any (a b : Nat) (w : World) : Calls Tryd.prog 32 #[U a, U b] w fun e w' => e = .returned (.int .i64 (sgn a b)) ∧ ∃ c1 c2, w' = (w.alloc (.cells c1 26)).alloc (.cells c2 26) := by
  by_cases h : hi a = hi b
  · have hs := Lib.hid (sgn_eq_hi a b h)
    have hb : (hi a == hi b) = true := by simpa using h
    have hb' : (hi a != hi b) = false := by simpa using h
    clear h
    go_enter Tryd.func32, Tryd.ntmps32
    go_wp2_with (go_at_call 75; refine (compare_any _ _ _).mono ?_; rintro e w' ⟨rfl, rfl⟩; rw [hs.out])
    go_ret
    exact ⟨rfl, _, _, rfl⟩
  · have hs := Lib.hid (sgn_ne_hi a b h)
    have hb : (hi a == hi b) = false := by simpa using h
    have hb' : (hi a != hi b) = true := by simpa using h
    clear h
    go_enter Tryd.func32, Tryd.ntmps32
    go_wp2_with (go_at_call 75; refine (compare_any _ _ _).mono ?_; rintro e w' ⟨rfl, rfl⟩; rw [hs.out])
    go_ret
    exact ⟨rfl, _, _, rfl⟩

/-- wide.Add, where it fits. -/
theorem add_fits (a b : Nat) (h : Fits (a + b)) (w : World) : Calls Tryd.prog 27 #[U a, U b] w fun e w' => e = .returned (.tuple #[U (a + b), .bool true]) ∧ ∃ c1 c2 c3, w' = ((w.alloc (.cells c1 26)).alloc (.cells c2 26)).alloc (.cells c3 26) := by
  have a0 := hi_nonneg a; have a1 := lo_nonneg a; have b0 := hi_nonneg b; have b1 := lo_nonneg b
  have k0 : 0 ≤ (lo a + lo b) / 18446744073709551616 := by omega
  have k1 : (lo a + lo b) / 18446744073709551616 ≤ 1 := by have := lo_lt a; have := lo_lt b; omega
  have e1 := Lib.hid (add_lo a b); have e2 := Lib.hid (add_hi a b h); have e3 := Lib.hid (add_no a b h)
  clear h
  go_enter Tryd.func27, Tryd.ntmps27
  go_wp2_with (first | (simp only [add64_0 (lo a) (lo b) a1 b1, e1.out]) | (simp only [add64 (hi a) (hi b) _ a0 b0 k0 k1, e2.out, e3.out]))
  exact bodyPost_ret (v := .tuple #[U (a + b), .bool true]) (by simp [results, Tryd.results27, go_sem]) rfl ⟨rfl, _, _, _, rfl⟩
theorem add_over (a b : Nat) (ha : Fits a) (hb : Fits b) (h : ¬ Fits (a + b)) (w : World) : Calls Tryd.prog 27 #[U a, U b] w fun e w' => e = .returned (.tuple #[U 0, .bool false]) ∧ ∃ c1 c2 c3, w' = ((w.alloc (.cells c1 26)).alloc (.cells c2 26)).alloc (.cells c3 26) := by
  have a0 := hi_nonneg a; have a1 := lo_nonneg a; have b0 := hi_nonneg b; have b1 := lo_nonneg b
  have k0 : 0 ≤ (lo a + lo b) / 18446744073709551616 := by omega
  have k1 : (lo a + lo b) / 18446744073709551616 ≤ 1 := by have := lo_lt a; have := lo_lt b; omega
  have e1 := Lib.hid (add_lo a b); have e3 := Lib.hid (add_yes a b ha hb h)
  clear h ha hb
  go_enter Tryd.func27, Tryd.ntmps27
  go_wp2_with (first | (simp only [add64_0 (lo a) (lo b) a1 b1, e1.out]) | (simp only [add64 (hi a) (hi b) _ a0 b0 k0 k1, e3.out]))
  exact bodyPost_ret (v := .tuple #[U 0, .bool false]) (by simp [results, Tryd.results27, go_sem, hi_zero, lo_zero]) rfl ⟨rfl, _, _, _, rfl⟩

theorem add_any (a b : Nat) (ha : Fits a) (hb : Fits b) (w : World) : Calls Tryd.prog 27 #[U a, U b] w fun e w' => e = .returned (.tuple #[U (cut (a + b)), .bool (fitsB (a + b))]) ∧ ∃ c1 c2 c3, w' = ((w.alloc (.cells c1 26)).alloc (.cells c2 26)).alloc (.cells c3 26) := by
  by_cases h : Fits (a + b)
  · rw [cut_yes h, fitsB_yes h]; exact add_fits a b h w
  · rw [cut_no h, fitsB_no h]; exact add_over a b ha hb h w

theorem add_bel (a b : Nat) (ha : Fits a) (hb : Fits b) (w : World) : Calls Tryd.prog 27 #[U a, U b] w fun e w' => e = .returned (.tuple #[U (cut (a + b)), .bool (fitsB (a + b))]) ∧ Below w.heap.size w w' :=
  (add_any a b ha hb w).mono fun _ _ ⟨he, _, _, _, hw⟩ => ⟨he, by subst hw; exact three_bel _ _ _ _⟩

end Go.Proofs.YtnacokogihanoaaDoor.Wd
