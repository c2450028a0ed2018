/- What is asked of a reader, and of the document's: both tell the same. Both readers are in one state. -/
import Derived.Test.YtacobmnghdibaaaJ15
import Derived.Test.YtacobmnghdibaaaJ14
namespace Go.Proofs.Ytacobmnghdibaaa
open Go.RowKit
set_option linter.unusedVariables false
set_option linter.unusedSimpArgs false
set_option maxHeartbeats 2000000
set_option maxRecDepth 100000
/-- Limbs stay where another thing turns. -/
theorem Lim.tkb {W W' : World} {A : Option Addr} {n c g : Nat} {xs : List Nat} {cs ds : Array Value} (h : Lim W A n c xs) (hg : Box W g cs) (hc : ∀ (i : Nat) (x : Nat), cs[i]? ≠ some (lv x)) (T : Tk g ds W W') : Lim W' A n c xs :=
  ⟨h.len, h.cap, h.top, fun j hj => by
    obtain ⟨ad, e, hcell⟩ := h.at_ j hj
    refine ⟨ad, e, T.cell (fun hb => ?_) hcell⟩
    obtain ⟨t, hh⟩ := hg
    have hb' : (ad.add j).block = g := hb
    unfold World.cell? at hcell
    rw [hb', hh] at hcell
    simp only at hcell
    split at hcell
    · cases hcell
    · exact hc _ _ hcell, h.lo⟩
theorem rdc_no (s : ByteArray) (p : Int) (lo : Bool) : ∀ (i : Nat) (x : Nat), (#[.string s, .int .i64 p, .bool lo] : Array Value)[i]? ≠ some (lv x) :=
  no_lv3 (fun x h => by cases h) (fun x h => by cases h) (fun x h => by cases h)
/-- The document's reader after an answer, in cells. -/
abbrev rdoP (p : Int) (o : Option Nat) : Int := match o with | some k => p + k | none => p
abbrev rdoL (o : Option Nat) : Bool := match o with | some _ => false | none => true
theorem rdo_eq (s : ByteArray) (p : Int) (o : Option Nat) : rdo s p o = rd s (rdoP p o) (rdoL o) := by cases o <;> rfl
theorem rdc_eq (s : ByteArray) (p : Int) (o : Option Nat) : rdc s p o = #[.string s, .int .i64 (rdoP p o), .bool (rdoL o)] := by cases o <;> rfl
theorem ask_num {s : ByteArray} {p : Int} {lo : Bool} {g : Nat} {w : World} (hG : Box w g #[.string s, .int .i64 p, .bool lo]) (kind most : Int) (mb : -9223372036854775808 ≤ most ∧ most ≤ 9223372036854775807) (hs : s.size ≤ 600) (hk : kind = 0) : Calls Try.prog 21 #[.pointer (some ⟨g, 0, none⟩), rd s p lo, .agg #[.int .i64 kind, .int .i64 most]] w fun e w' =>
    ∃ o : Option Nat, e = .returned (.tuple #[rd s (rdoP p o) (rdoL o), .bool true]) ∧ Tk g #[.string s, .int .i64 (rdoP p o), .bool (rdoL o)] w w' := by
  have M0 := (((Own.new w).alloc rfl #[.string s, .int .i64 p, .bool lo] 42).alloc (World.size_alloc _ _) #[.int .i64 kind, .int .i64 most] 44).alloc (g := w.heap.size + 2) (by simp) #[.string ⟨#[]⟩, .int .i64 0, .bool false] 42
  have gl := hG.lt
  replace hG := hG.next M0.bl
  obtain ⟨a, ha⟩ : ∃ a, w.heap.size = a := ⟨_, rfl⟩
  rw [ha] at M0
  obtain ⟨b, hb⟩ : ∃ b, a + 1 = b := ⟨_, rfl⟩
  obtain ⟨r, hr⟩ : ∃ r, a + 2 = r := ⟨_, rfl⟩
  have hr2 : b + 1 = r := by omega
  rw [hb, hr] at M0
  have M : Own w [(a, #[.string s, .int .i64 p, .bool lo]), (b, #[.int .i64 kind, .int .i64 most]), (r, #[.string ⟨#[]⟩, .int .i64 0, .bool false])] _ := M0
  obtain ⟨c0, c1, c2⟩ := (M.box 0 a _ rfl).2.three
  obtain ⟨b0, b1⟩ := (M.box 1 b _ rfl).2.two
  have rw_ : Hid (w.heap.size ≤ r) := by unfold Hid; omega
  have rg : Hid (r ≠ g) := by unfold Hid; omega
  clear M0
  obtain ⟨m, hm, wm, wm2⟩ : ∃ m : Nat, m < 18446744073709551616 ∧ IntKind.u64.wrap most = (m : Int) ∧ most % 18446744073709551616 = (m : Int) := ⟨(most % 18446744073709551616).toNat, by omega, by rw [IntKind.wrap_u64]; omega, by omega⟩
  have e0 : (kind == 0) = true := by rw [hk]; rfl
  clear hk
  have GL : Hid (g < w.heap.size) := gl
  obtain ⟨o, ho⟩ : ∃ o : Option Nat, o = (readN s p lo m).map Prod.snd := ⟨_, rfl⟩
  obtain ⟨p9, hp9'⟩ : ∃ x, x = rdoP p o := ⟨_, rfl⟩
  obtain ⟨l9, hl9'⟩ : ∃ x, x = rdoL o := ⟨_, rfl⟩
  obtain ⟨u, hu⟩ : ∃ u, u = ((readN s p lo m).getD (0, 0)).1 := ⟨_, rfl⟩
  have K1 : Hid (∀ W, Calls Try.prog 36 #[rd s p lo, .int .u64 (m : Int)] W fun e w' => e = .returned (.tuple #[.int .u64 (u : Int), rd s p9 l9]) ∧ Below W.heap.size W w') := fun W => by
    have := refReadNumber_any s p lo m (by omega) hm W
    rw [← ho, rdo_eq, ← hp9', ← hl9'] at this
    rw [← hu] at this
    exact this
  have K2 : Hid (∀ W, Box W g #[.string s, .int .i64 p, .bool lo] → Calls Try.prog 24 #[.pointer (some ⟨g, 0, none⟩), .int .u64 (m : Int)] W fun e w' => e = .returned (.int .u64 (u : Int)) ∧ Tk g #[.string s, .int .i64 p9, .bool l9] W w') := fun W hW => by
    have := rNumber_any hW m (by omega)
    rw [← ho, rdc_eq, ← hp9', ← hl9'] at this
    rw [← hu] at this
    exact this
  clear hu hm
  have hp9 := Lib.hid hp9'.symm
  have hl9 := Lib.hid hl9'.symm
  clear ho hp9' hl9' hs gl
  have glw : Hid (g < w.heap.size) := GL.out
  go_enter Try.func21, Try.ntmps21
  go_wp2_with fail
  clear ha hb hr hr2 c0 c1 c2 b0 b1
  generalize ((w.alloc (.cells #[.string s, .int .i64 p, .bool lo] 42)).alloc (.cells #[.int .i64 kind, .int .i64 most] 44)).alloc (.cells #[.string ⟨#[]⟩, .int .i64 0, .bool false] 42) = W at *
  refine (K1.out _).mono ?_
  rintro e W1 ⟨rfl, B1⟩
  replace M := M.next B1
  replace hG := hG.next B1
  obtain ⟨y, hy⟩ : ∃ y, W1.heap.size = y := ⟨_, rfl⟩
  have Y := Box.new W1 #[.string s, .int .i64 p9, .bool l9] 42
  rw [hy] at Y
  have BN := below_one W1 (.cells #[.string s, .int .i64 p9, .bool l9] 42)
  have yg : Hid (y ≠ g) := by have := hG.lt; unfold Hid; omega
  have yr : Hid (y ≠ r) := by have := (M.box 2 r _ rfl).2.lt; unfold Hid; omega
  replace M := M.next BN
  replace hG := hG.next BN
  obtain ⟨b0, b1⟩ := (M.box 1 b _ rfl).2.two
  obtain ⟨k0, k1, k2⟩ := (M.box 2 r _ rfl).2.three
  have m0 := (M.box 2 r _ rfl).2.melt 0; have m1 := (M.box 2 r _ rfl).2.melt 1; have m2 := (M.box 2 r _ rfl).2.melt 2
  obtain ⟨y0, y1, y2⟩ := Y.three
  have br : Hid (b ≠ r) := M.ne 1 2 b r _ _ rfl rfl (by decide)
  have bg : Hid (b ≠ g) := by have h1 := (M.box 1 b _ rfl).1; have := glw.out; unfold Hid; omega
  go_wp2_with fail
  clear hy
  generalize W1.alloc (.cells #[.string s, .int .i64 p9, .bool l9] 42) = V9 at *
  have RH := Lib.hid (M.box 2 r _ rfl).2
  have GH := Lib.hid hG
  have ML := Lib.hid M.bl
  clear M hG B1 BN Y k0 k1 k2 m0 m1 m2
  go_region_held3 (fun w' => w'.cell? ⟨y, 0, none⟩ = some (.string s) ∧ w'.cell? ⟨y, 1, none⟩ = some (.int .i64 p9) ∧ w'.cell? ⟨y, 2, none⟩ = some (.bool l9) ∧ w'.cell? ⟨b, 1, none⟩ = some (.int .i64 most))
    ((refine ⟨?_, ?_, ?_, ?_⟩ <;> (repeat (first | with_reducible exact y0 | with_reducible exact y1 | with_reducible exact y2 | with_reducible exact b1 | with_reducible exact z0 | with_reducible exact z1 | with_reducible exact z2 | with_reducible exact z3 | with_reducible exact x0 | with_reducible exact x1 | with_reducible exact x2 | with_reducible exact x3 | with_reducible refine keep_drew ?_ | refine keep_set ?_ _ (by first | exact yr.out | exact br.out | exact vr.out)))))
    (first
      | (go_at_call 24; (with_reducible refine (K2.out _ ?_).mono ?_); (· exact GH.out.drew); rintro e Z ⟨rfl, T⟩; have z0 := T.cell (p := ⟨y, 0, none⟩) yg.out y0; have z1 := T.cell (p := ⟨y, 1, none⟩) yg.out y1; have z2 := T.cell (p := ⟨y, 2, none⟩) yg.out y2; have z3 := T.cell (p := ⟨b, 1, none⟩) bg.out b1; have R2 := RH.out.drew.tk T rg.out; obtain ⟨j0, j1, j2⟩ := R2.three; have n0 := R2.melt 0; have n1 := R2.melt 1; have n2 := R2.melt 2)
    )
  all_goals go_wp2_with fail
  have TT := (((T.pre ML.out.drew).far rw_.out rg.out.symm 0 (.string s)).far rw_.out rg.out.symm 1 (.int .i64 p9)).far rw_.out rg.out.symm 2 (.bool l9)
  have R9 : Box _ r #[.string s, .int .i64 p9, .bool l9] := ((R2.set 0 (.string s)).set 1 (.int .i64 p9)).set 2 (.bool l9)
  have TH := Lib.hid TT
  clear TT
  generalize (World.setCell (World.setCell (World.setCell _ ⟨r, 0, none⟩ (.string s)) ⟨r, 1, none⟩ (.int .i64 p9)) ⟨r, 2, none⟩ (.bool l9)) = W9 at *
  obtain ⟨t0, t1, t2⟩ := R9.three
  refine bodyPost_ret (v := .tuple #[rd s p9 l9, .bool true]) ?_ rfl ?_
  · simp [results, Try.results21, go_sem, t0, t1, t2]
  · exact ⟨o, by rw [hp9.out, hl9.out], by rw [hp9.out, hl9.out]; exact TH.out⟩
theorem ask_txt {s : ByteArray} {p : Int} {lo : Bool} {g : Nat} {w : World} (hG : Box w g #[.string s, .int .i64 p, .bool lo]) (kind most : Int) (mb : -9223372036854775808 ≤ most ∧ most ≤ 9223372036854775807) (hs : s.size ≤ 600) (hk : kind = 1) : Calls Try.prog 21 #[.pointer (some ⟨g, 0, none⟩), rd s p lo, .agg #[.int .i64 kind, .int .i64 most]] w fun e w' =>
    ∃ o : Option Nat, e = .returned (.tuple #[rd s (rdoP p o) (rdoL o), .bool true]) ∧ Tk g #[.string s, .int .i64 (rdoP p o), .bool (rdoL o)] w w' := by
  have M0 := (((Own.new w).alloc rfl #[.string s, .int .i64 p, .bool lo] 42).alloc (World.size_alloc _ _) #[.int .i64 kind, .int .i64 most] 44).alloc (g := w.heap.size + 2) (by simp) #[.string ⟨#[]⟩, .int .i64 0, .bool false] 42
  have gl := hG.lt
  replace hG := hG.next M0.bl
  obtain ⟨a, ha⟩ : ∃ a, w.heap.size = a := ⟨_, rfl⟩
  rw [ha] at M0
  obtain ⟨b, hb⟩ : ∃ b, a + 1 = b := ⟨_, rfl⟩
  obtain ⟨r, hr⟩ : ∃ r, a + 2 = r := ⟨_, rfl⟩
  have hr2 : b + 1 = r := by omega
  rw [hb, hr] at M0
  have M : Own w [(a, #[.string s, .int .i64 p, .bool lo]), (b, #[.int .i64 kind, .int .i64 most]), (r, #[.string ⟨#[]⟩, .int .i64 0, .bool false])] _ := M0
  obtain ⟨c0, c1, c2⟩ := (M.box 0 a _ rfl).2.three
  obtain ⟨b0, b1⟩ := (M.box 1 b _ rfl).2.two
  have rw_ : Hid (w.heap.size ≤ r) := by unfold Hid; omega
  have rg : Hid (r ≠ g) := by unfold Hid; omega
  clear M0
  have e0 : (kind == 0) = false := by rw [hk]; rfl
  have e1 : (kind == 1) = true := by rw [hk]; rfl
  clear hk
  have GL : Hid (g < w.heap.size) := gl
  obtain ⟨o, ho⟩ : ∃ o : Option Nat, o = (readT s p lo most).map (fun x => x.2 + x.1) := ⟨_, rfl⟩
  obtain ⟨p9, hp9'⟩ : ∃ x, x = rdoP p o := ⟨_, rfl⟩
  obtain ⟨l9, hl9'⟩ : ∃ x, x = rdoL o := ⟨_, rfl⟩
  obtain ⟨u, hu⟩ : ∃ u, u = textB (restB s p lo) (readT s p lo most) := ⟨_, rfl⟩
  have K1 : Hid (∀ W, Calls Try.prog 37 #[rd s p lo, .int .i64 most] W fun e w' => e = .returned (.tuple #[.string u, rd s p9 l9]) ∧ Below W.heap.size W w') := fun W => by
    have := refReadText_any s p lo most (by omega) mb W
    rw [show ((readT s p lo most).map fun x => x.1 + x.2) = o by rw [ho]; congr 1; funext x; exact Nat.add_comm _ _, rdo_eq, ← hp9', ← hl9', ← hu] at this
    exact this
  have K2 : Hid (∀ W, Box W g #[.string s, .int .i64 p, .bool lo] → Calls Try.prog 25 #[.pointer (some ⟨g, 0, none⟩), .int .i64 most] W fun e w' => e = .returned (.string u) ∧ Tk g #[.string s, .int .i64 p9, .bool l9] W w') := fun W hW => by
    have := rText_any hW most mb (by omega)
    rw [← ho, rdc_eq, ← hp9', ← hl9'] at this
    rw [← hu] at this
    exact this
  clear hu
  have hp9 := Lib.hid hp9'.symm
  have hl9 := Lib.hid hl9'.symm
  clear ho hp9' hl9' hs gl
  have glw : Hid (g < w.heap.size) := GL.out
  go_enter Try.func21, Try.ntmps21
  go_wp2_with fail
  clear ha hb hr hr2 c0 c1 c2 b0 b1
  generalize ((w.alloc (.cells #[.string s, .int .i64 p, .bool lo] 42)).alloc (.cells #[.int .i64 kind, .int .i64 most] 44)).alloc (.cells #[.string ⟨#[]⟩, .int .i64 0, .bool false] 42) = W at *
  refine (K1.out _).mono ?_
  rintro e W1 ⟨rfl, B1⟩
  replace M := M.next B1
  replace hG := hG.next B1
  obtain ⟨y, hy⟩ : ∃ y, W1.heap.size = y := ⟨_, rfl⟩
  have Y := Box.new W1 #[.string s, .int .i64 p9, .bool l9] 42
  rw [hy] at Y
  have BN := below_one W1 (.cells #[.string s, .int .i64 p9, .bool l9] 42)
  have yg : Hid (y ≠ g) := by have := hG.lt; unfold Hid; omega
  have yr : Hid (y ≠ r) := by have := (M.box 2 r _ rfl).2.lt; unfold Hid; omega
  replace M := M.next BN
  replace hG := hG.next BN
  obtain ⟨b0, b1⟩ := (M.box 1 b _ rfl).2.two
  obtain ⟨k0, k1, k2⟩ := (M.box 2 r _ rfl).2.three
  have m0 := (M.box 2 r _ rfl).2.melt 0; have m1 := (M.box 2 r _ rfl).2.melt 1; have m2 := (M.box 2 r _ rfl).2.melt 2
  obtain ⟨y0, y1, y2⟩ := Y.three
  have br : Hid (b ≠ r) := M.ne 1 2 b r _ _ rfl rfl (by decide)
  have bg : Hid (b ≠ g) := by have h1 := (M.box 1 b _ rfl).1; have := glw.out; unfold Hid; omega
  go_wp2_with fail
  clear hy
  generalize W1.alloc (.cells #[.string s, .int .i64 p9, .bool l9] 42) = V9 at *
  have RH := Lib.hid (M.box 2 r _ rfl).2
  have GH := Lib.hid hG
  have ML := Lib.hid M.bl
  clear M hG B1 BN Y k0 k1 k2 m0 m1 m2
  go_region_held3 (fun w' => w'.cell? ⟨y, 0, none⟩ = some (.string s) ∧ w'.cell? ⟨y, 1, none⟩ = some (.int .i64 p9) ∧ w'.cell? ⟨y, 2, none⟩ = some (.bool l9) ∧ w'.cell? ⟨b, 1, none⟩ = some (.int .i64 most))
    ((refine ⟨?_, ?_, ?_, ?_⟩ <;> (repeat (first | with_reducible exact y0 | with_reducible exact y1 | with_reducible exact y2 | with_reducible exact b1 | with_reducible exact z0 | with_reducible exact z1 | with_reducible exact z2 | with_reducible exact z3 | with_reducible exact x0 | with_reducible exact x1 | with_reducible exact x2 | with_reducible exact x3 | with_reducible refine keep_drew ?_ | refine keep_set ?_ _ (by first | exact yr.out | exact br.out | exact vr.out)))))
    (first
      | (go_at_call 25; (with_reducible refine (K2.out _ ?_).mono ?_); (· exact GH.out.drew); rintro e Z ⟨rfl, T⟩; have z0 := T.cell (p := ⟨y, 0, none⟩) yg.out y0; have z1 := T.cell (p := ⟨y, 1, none⟩) yg.out y1; have z2 := T.cell (p := ⟨y, 2, none⟩) yg.out y2; have z3 := T.cell (p := ⟨b, 1, none⟩) bg.out b1; have R2 := RH.out.drew.tk T rg.out; obtain ⟨j0, j1, j2⟩ := R2.three; have n0 := R2.melt 0; have n1 := R2.melt 1; have n2 := R2.melt 2))
  all_goals go_wp2_with fail
  have TT := (((T.pre ML.out.drew).far rw_.out rg.out.symm 0 (.string s)).far rw_.out rg.out.symm 1 (.int .i64 p9)).far rw_.out rg.out.symm 2 (.bool l9)
  have R9 : Box _ r #[.string s, .int .i64 p9, .bool l9] := ((R2.set 0 (.string s)).set 1 (.int .i64 p9)).set 2 (.bool l9)
  have TH := Lib.hid TT
  clear TT
  generalize (World.setCell (World.setCell (World.setCell _ ⟨r, 0, none⟩ (.string s)) ⟨r, 1, none⟩ (.int .i64 p9)) ⟨r, 2, none⟩ (.bool l9)) = W9 at *
  obtain ⟨t0, t1, t2⟩ := R9.three
  refine bodyPost_ret (v := .tuple #[rd s p9 l9, .bool true]) ?_ rfl ?_
  · simp [results, Try.results21, go_sem, t0, t1, t2]
  · exact ⟨o, by rw [hp9.out, hl9.out], by rw [hp9.out, hl9.out]; exact TH.out⟩
theorem ask_nat {s : ByteArray} {p : Int} {lo : Bool} {g : Nat} {w : World} (hG : Box w g #[.string s, .int .i64 p, .bool lo]) (kind most : Int) (mb : -9223372036854775808 ≤ most ∧ most ≤ 9223372036854775807) (hs : s.size ≤ 600) (hk : kind = 2) : Calls Try.prog 21 #[.pointer (some ⟨g, 0, none⟩), rd s p lo, .agg #[.int .i64 kind, .int .i64 most]] w fun e w' =>
    ∃ o : Option Nat, e = .returned (.tuple #[rd s (rdoP p o) (rdoL o), .bool true]) ∧ Tk g #[.string s, .int .i64 (rdoP p o), .bool (rdoL o)] w w' := by
  have M0 := (((Own.new w).alloc rfl #[.string s, .int .i64 p, .bool lo] 42).alloc (World.size_alloc _ _) #[.int .i64 kind, .int .i64 most] 44).alloc (g := w.heap.size + 2) (by simp) #[.string ⟨#[]⟩, .int .i64 0, .bool false] 42
  have gl := hG.lt
  replace hG := hG.next M0.bl
  obtain ⟨a, ha⟩ : ∃ a, w.heap.size = a := ⟨_, rfl⟩
  rw [ha] at M0
  obtain ⟨b, hb⟩ : ∃ b, a + 1 = b := ⟨_, rfl⟩
  obtain ⟨r, hr⟩ : ∃ r, a + 2 = r := ⟨_, rfl⟩
  have hr2 : b + 1 = r := by omega
  rw [hb, hr] at M0
  have M : Own w [(a, #[.string s, .int .i64 p, .bool lo]), (b, #[.int .i64 kind, .int .i64 most]), (r, #[.string ⟨#[]⟩, .int .i64 0, .bool false])] _ := M0
  obtain ⟨c0, c1, c2⟩ := (M.box 0 a _ rfl).2.three
  obtain ⟨b0, b1⟩ := (M.box 1 b _ rfl).2.two
  have rw_ : Hid (w.heap.size ≤ r) := by unfold Hid; omega
  have rg : Hid (r ≠ g) := by unfold Hid; omega
  clear M0
  have e0 : (kind == 0) = false := by rw [hk]; rfl
  have e1 : (kind == 1) = false := by rw [hk]; rfl
  have e2 : (kind == 2) = true := by rw [hk]; rfl
  clear hk
  have GL : Hid (g < w.heap.size) := gl
  obtain ⟨o, ho⟩ : ∃ o : Option Nat, o = (readA s p lo).map Prod.snd := ⟨_, rfl⟩
  obtain ⟨p9, hp9'⟩ : ∃ x, x = rdoP p o := ⟨_, rfl⟩
  obtain ⟨l9, hl9'⟩ : ∃ x, x = rdoL o := ⟨_, rfl⟩
  obtain ⟨us, hu⟩ : ∃ u, u = ((readA s p lo).map Prod.fst).getD [] := ⟨_, rfl⟩
  have K1 : Hid (∀ W, Calls Try.prog 38 #[rd s p lo] W fun e w' => ∃ A n c, e = .returned (.tuple #[.slice A n c, rd s p9 l9]) ∧ Lim w' A n c us ∧ Below W.heap.size W w') := fun W => by
    have := refReadNat_any s p lo (by omega) W
    unfold RetL at this
    rw [← ho, rdo_eq, ← hp9', ← hl9'] at this
    rw [← hu] at this
    exact this
  have K2 : Hid (∀ W, Box W g #[.string s, .int .i64 p, .bool lo] → Calls Try.prog 26 #[.pointer (some ⟨g, 0, none⟩)] W fun e w' => ∃ A n c, e = .returned (.slice A n c) ∧ Lim w' A n c us ∧ Tk g #[.string s, .int .i64 p9, .bool l9] W w') := fun W hW => by
    refine (rNat_any hW (by omega)).mono fun e w' h => ?_
    obtain ⟨A, n, c, e1, e2, _, e3⟩ := h
    rw [← ho, rdc_eq, ← hp9', ← hl9'] at e3
    rw [← hu] at e2
    exact ⟨A, n, c, e1, e2, e3⟩
  have KS : Hid (∀ (W : World) A n c A' n' c', Lim W A n c us → Lim W A' n' c' us → Calls Try.prog 29 #[.slice A n c, .slice A' n' c'] W fun e w' => e = .returned (.bool true) ∧ Below W.heap.size W w') := fun W A n c A' n' c' h h' => by
    have := same_bel h h'
    rw [sameB_yes us] at this
    exact this
  clear hu
  have hp9 := Lib.hid hp9'.symm
  have hl9 := Lib.hid hl9'.symm
  clear ho hp9' hl9' hs gl
  have glw : Hid (g < w.heap.size) := GL.out
  go_enter Try.func21, Try.ntmps21
  go_wp2_with fail
  clear ha hb hr hr2 c0 c1 c2 b0 b1
  generalize ((w.alloc (.cells #[.string s, .int .i64 p, .bool lo] 42)).alloc (.cells #[.int .i64 kind, .int .i64 most] 44)).alloc (.cells #[.string ⟨#[]⟩, .int .i64 0, .bool false] 42) = W at *
  refine (K1.out _).mono ?_
  rintro e W1 ⟨A, n, c, rfl, LA, B1⟩
  replace M := M.next B1
  replace hG := hG.next B1
  obtain ⟨y, hy⟩ : ∃ y, W1.heap.size = y := ⟨_, rfl⟩
  have Y := Box.new W1 #[.string s, .int .i64 p9, .bool l9] 42
  rw [hy] at Y
  have BN := below_one W1 (.cells #[.string s, .int .i64 p9, .bool l9] 42)
  have yg : Hid (y ≠ g) := by have := hG.lt; unfold Hid; omega
  have yr : Hid (y ≠ r) := by have := (M.box 2 r _ rfl).2.lt; unfold Hid; omega
  replace M := M.next BN
  replace hG := hG.next BN
  obtain ⟨b0, b1⟩ := (M.box 1 b _ rfl).2.two
  obtain ⟨k0, k1, k2⟩ := (M.box 2 r _ rfl).2.three
  have m0 := (M.box 2 r _ rfl).2.melt 0; have m1 := (M.box 2 r _ rfl).2.melt 1; have m2 := (M.box 2 r _ rfl).2.melt 2
  obtain ⟨y0, y1, y2⟩ := Y.three
  have br : Hid (b ≠ r) := M.ne 1 2 b r _ _ rfl rfl (by decide)
  have bg : Hid (b ≠ g) := by have h1 := (M.box 1 b _ rfl).1; have := glw.out; unfold Hid; omega
  go_wp2_with fail
  clear hy
  generalize W1.alloc (.cells #[.string s, .int .i64 p9, .bool l9] 42) = V9 at *
  have RH := Lib.hid (M.box 2 r _ rfl).2
  have GH := Lib.hid hG
  have ML := Lib.hid M.bl
  have LA9 := Lib.hid (LA.next BN)
  clear LA
  clear M hG B1 BN Y k0 k1 k2 m0 m1 m2
  go_region_held3 (fun w' => w'.cell? ⟨y, 0, none⟩ = some (.string s) ∧ w'.cell? ⟨y, 1, none⟩ = some (.int .i64 p9) ∧ w'.cell? ⟨y, 2, none⟩ = some (.bool l9) ∧ w'.cell? ⟨b, 1, none⟩ = some (.int .i64 most))
    ((refine ⟨?_, ?_, ?_, ?_⟩ <;> (repeat (first | with_reducible exact y0 | with_reducible exact y1 | with_reducible exact y2 | with_reducible exact b1 | with_reducible exact z0 | with_reducible exact z1 | with_reducible exact z2 | with_reducible exact z3 | with_reducible exact x0 | with_reducible exact x1 | with_reducible exact x2 | with_reducible exact x3 | with_reducible refine keep_drew ?_ | refine keep_set ?_ _ (by first | exact yr.out | exact br.out | exact vr.out)))))
    (first
      | (go_at_call 26; (with_reducible refine (K2.out _ ?_).mono ?_); (· exact GH.out.drew); rintro e Z ⟨A2, n2, c2, rfl, L2, T⟩; have z0 := T.cell (p := ⟨y, 0, none⟩) yg.out y0; have z1 := T.cell (p := ⟨y, 1, none⟩) yg.out y1; have z2 := T.cell (p := ⟨y, 2, none⟩) yg.out y2; have z3 := T.cell (p := ⟨b, 1, none⟩) bg.out b1; have R2 := RH.out.drew.tk T rg.out; obtain ⟨j0, j1, j2⟩ := R2.three; have n0 := R2.melt 0; have n1 := R2.melt 1; have n2 := R2.melt 2)
      | (go_at_call 29; (with_reducible refine (KS.out _ _ _ _ _ _ _ L2 (LA9.out.drew.tkb GH.out.drew (rdc_no _ _ _) T)).mono ?_); rintro e Z2 ⟨rfl, BS⟩; have x0 := keep_cell BS z0; have x1 := keep_cell BS z1; have x2 := keep_cell BS z2; have x3 := keep_cell BS z3; have R3 := R2.next BS; obtain ⟨i0, i1, i2⟩ := R3.three; have o0 := R3.melt 0; have o1 := R3.melt 1; have o2 := R3.melt 2))
  all_goals go_wp2_with fail
  have TT := ((((T.pre ML.out.drew).next BS).far rw_.out rg.out.symm 0 (.string s)).far rw_.out rg.out.symm 1 (.int .i64 p9)).far rw_.out rg.out.symm 2 (.bool l9)
  have R9 : Box _ r #[.string s, .int .i64 p9, .bool l9] := ((R3.set 0 (.string s)).set 1 (.int .i64 p9)).set 2 (.bool l9)
  have TH := Lib.hid TT
  clear TT
  generalize (World.setCell (World.setCell (World.setCell _ ⟨r, 0, none⟩ (.string s)) ⟨r, 1, none⟩ (.int .i64 p9)) ⟨r, 2, none⟩ (.bool l9)) = W9 at *
  obtain ⟨t0, t1, t2⟩ := R9.three
  refine bodyPost_ret (v := .tuple #[rd s p9 l9, .bool true]) ?_ rfl ?_
  · simp [results, Try.results21, go_sem, t0, t1, t2]
  · exact ⟨o, by rw [hp9.out, hl9.out], by rw [hp9.out, hl9.out]; exact TH.out⟩
theorem ask_rat {s : ByteArray} {p : Int} {lo : Bool} {g : Nat} {w : World} (hG : Box w g #[.string s, .int .i64 p, .bool lo]) (kind most : Int) (mb : -9223372036854775808 ≤ most ∧ most ≤ 9223372036854775807) (hs : s.size ≤ 600) (hk : kind = 3) : Calls Try.prog 21 #[.pointer (some ⟨g, 0, none⟩), rd s p lo, .agg #[.int .i64 kind, .int .i64 most]] w fun e w' =>
    ∃ o : Option Nat, e = .returned (.tuple #[rd s (rdoP p o) (rdoL o), .bool true]) ∧ Tk g #[.string s, .int .i64 (rdoP p o), .bool (rdoL o)] w w' := by
  have M0 := (((Own.new w).alloc rfl #[.string s, .int .i64 p, .bool lo] 42).alloc (World.size_alloc _ _) #[.int .i64 kind, .int .i64 most] 44).alloc (g := w.heap.size + 2) (by simp) #[.string ⟨#[]⟩, .int .i64 0, .bool false] 42
  have gl := hG.lt
  replace hG := hG.next M0.bl
  obtain ⟨a, ha⟩ : ∃ a, w.heap.size = a := ⟨_, rfl⟩
  rw [ha] at M0
  obtain ⟨b, hb⟩ : ∃ b, a + 1 = b := ⟨_, rfl⟩
  obtain ⟨r, hr⟩ : ∃ r, a + 2 = r := ⟨_, rfl⟩
  have hr2 : b + 1 = r := by omega
  rw [hb, hr] at M0
  have M : Own w [(a, #[.string s, .int .i64 p, .bool lo]), (b, #[.int .i64 kind, .int .i64 most]), (r, #[.string ⟨#[]⟩, .int .i64 0, .bool false])] _ := M0
  obtain ⟨c0, c1, c2⟩ := (M.box 0 a _ rfl).2.three
  obtain ⟨b0, b1⟩ := (M.box 1 b _ rfl).2.two
  have rw_ : Hid (w.heap.size ≤ r) := by unfold Hid; omega
  have rg : Hid (r ≠ g) := by unfold Hid; omega
  clear M0
  have e0 : (kind == 0) = false := by rw [hk]; rfl
  have e1 : (kind == 1) = false := by rw [hk]; rfl
  have e2 : (kind == 2) = false := by rw [hk]; rfl
  have e3 : (kind == 3) = true := by rw [hk]; rfl
  clear hk
  have GL : Hid (g < w.heap.size) := gl
  obtain ⟨o, ho⟩ : ∃ o : Option Nat, o = (readQ s p lo).map fun y => y.2.2 := ⟨_, rfl⟩
  obtain ⟨p9, hp9'⟩ : ∃ x, x = rdoP p o := ⟨_, rfl⟩
  obtain ⟨l9, hl9'⟩ : ∃ x, x = rdoL o := ⟨_, rfl⟩
  obtain ⟨us, hu⟩ : ∃ u, u = ((readQ s p lo).map fun y => y.1).getD [] := ⟨_, rfl⟩
  obtain ⟨vs, hvs⟩ : ∃ u, u = ((readQ s p lo).map fun y => y.2.1).getD [] := ⟨_, rfl⟩
  have K1 : Hid (∀ W, Calls Try.prog 39 #[rd s p lo] W fun e w' => ∃ A n c A' n' c', e = .returned (.tuple #[.agg #[.slice A n c, .slice A' n' c'], rd s p9 l9]) ∧ Lim w' A n c us ∧ Lim w' A' n' c' vs ∧ Below W.heap.size W w') := fun W => by
    have := refReadRat_any s p lo (by omega) W
    unfold RetQ8 at this
    rw [← ho, rdo_eq, ← hp9', ← hl9'] at this
    rw [← hu, ← hvs] at this
    exact this
  have K2 : Hid (∀ W, Box W g #[.string s, .int .i64 p, .bool lo] → Calls Try.prog 27 #[.pointer (some ⟨g, 0, none⟩)] W fun e w' => ∃ A n c A' n' c', e = .returned (.agg #[.slice A n c, .slice A' n' c']) ∧ Lim w' A n c us ∧ Lim w' A' n' c' vs ∧ Tk g #[.string s, .int .i64 p9, .bool l9] W w') := fun W hW => by
    refine (rRat_any hW (by omega)).mono fun e w' h => ?_
    obtain ⟨A, n, c, A', n', c', e1, e2, e4, _, _, e3⟩ := h
    rw [← ho, rdc_eq, ← hp9', ← hl9'] at e3
    rw [← hu] at e2
    rw [← hvs] at e4
    exact ⟨A, n, c, A', n', c', e1, e2, e4, e3⟩
  have KS : Hid (∀ (W : World) A n c A' n' c' D i j D' i' j', Lim W A n c us → Lim W A' n' c' vs → Lim W D i j us → Lim W D' i' j' vs → Calls Try.prog 30 #[.agg #[.slice A n c, .slice A' n' c'], .agg #[.slice D i j, .slice D' i' j']] W fun e w' => e = .returned (.bool true) ∧ Below W.heap.size W w') := fun W A n c A' n' c' D i j D' i' j' h1 h2 h3 h4 => by
    have := same3_any h1 h2 h3 h4
    rw [sameB_yes us, sameB_yes vs] at this
    exact this
  clear hu hvs
  have hp9 := Lib.hid hp9'.symm
  have hl9 := Lib.hid hl9'.symm
  clear ho hp9' hl9' hs gl
  have glw : Hid (g < w.heap.size) := GL.out
  go_enter Try.func21, Try.ntmps21
  go_wp2_with fail
  clear ha hb hr hr2 c0 c1 c2 b0 b1
  generalize ((w.alloc (.cells #[.string s, .int .i64 p, .bool lo] 42)).alloc (.cells #[.int .i64 kind, .int .i64 most] 44)).alloc (.cells #[.string ⟨#[]⟩, .int .i64 0, .bool false] 42) = W at *
  refine (K1.out _).mono ?_
  rintro e W1 ⟨A, n, c, A', n', c', rfl, LA, LB, B1⟩
  replace M := M.next B1
  replace hG := hG.next B1
  obtain ⟨v, hv⟩ : ∃ v, W1.heap.size = v := ⟨_, rfl⟩
  obtain ⟨y, hy⟩ : ∃ y, v + 1 = y := ⟨_, rfl⟩
  have V0 := (Box.new W1 #[.slice none 0 0, .slice none 0 0] 26).alloc (.cells #[.string ⟨#[]⟩, .int .i64 0, .bool false] 42)
  have Y0 := Box.new (W1.alloc (.cells #[.slice none 0 0, .slice none 0 0] 26)) #[.string ⟨#[]⟩, .int .i64 0, .bool false] 42
  rw [World.size_alloc, hv, hy] at Y0
  rw [hv] at V0
  have vy : ¬ v = y := by omega
  have yv : ¬ y = v := by omega
  have B0 := below_al (below_one W1 (.cells #[.slice none 0 0, .slice none 0 0] 26)) (.cells #[.string ⟨#[]⟩, .int .i64 0, .bool false] 42)
  have vw : W1.heap.size ≤ v := by omega
  have yw : W1.heap.size ≤ y := by omega
  obtain ⟨f0, f1⟩ := V0.two
  obtain ⟨f2, f3, f4⟩ := Y0.three
  have g0 := V0.melt 0; have g1 := V0.melt 1; have g2 := Y0.melt 0; have g3 := Y0.melt 1; have g4 := Y0.melt 2
  go_wp2_with fail
  clear f0 f1 f2 f3 f4 g0 g1 g2 g3 g4
  have V : Box _ v #[.slice A n c, .slice A' n' c'] := (((( (V0.set 0 (.slice A n c)).set 1 (.slice A' n' c')).far (p := ⟨y, 0, none⟩) vy (.string s)).far (p := ⟨y, 1, none⟩) vy (.int .i64 p9)).far (p := ⟨y, 2, none⟩) vy (.bool l9))
  have Y : Box _ y #[.string s, .int .i64 p9, .bool l9] := ((((Y0.far (p := ⟨v, 0, none⟩) yv (.slice A n c)).far (p := ⟨v, 1, none⟩) yv (.slice A' n' c')).set 0 (.string s)).set 1 (.int .i64 p9)).set 2 (.bool l9)
  have BN := below_set (below_set (below_set (below_set (below_set B0 (p := ⟨v, 0, none⟩) vw (.slice A n c)) (p := ⟨v, 1, none⟩) vw (.slice A' n' c')) (p := ⟨y, 0, none⟩) yw (.string s)) (p := ⟨y, 1, none⟩) yw (.int .i64 p9)) (p := ⟨y, 2, none⟩) yw (.bool l9)
  have vg : Hid (v ≠ g) := by have := hG.lt; unfold Hid; omega
  have vr : Hid (v ≠ r) := by have := (M.box 2 r _ rfl).2.lt; unfold Hid; omega
  clear V0 Y0 B0
  have yg : Hid (y ≠ g) := by have := hG.lt; unfold Hid; omega
  have yr : Hid (y ≠ r) := by have := (M.box 2 r _ rfl).2.lt; unfold Hid; omega
  replace M := M.next BN
  replace hG := hG.next BN
  obtain ⟨b0, b1⟩ := (M.box 1 b _ rfl).2.two
  obtain ⟨k0, k1, k2⟩ := (M.box 2 r _ rfl).2.three
  have m0 := (M.box 2 r _ rfl).2.melt 0; have m1 := (M.box 2 r _ rfl).2.melt 1; have m2 := (M.box 2 r _ rfl).2.melt 2
  obtain ⟨y0, y1, y2⟩ := Y.three
  have br : Hid (b ≠ r) := M.ne 1 2 b r _ _ rfl rfl (by decide)
  have bg : Hid (b ≠ g) := by have h1 := (M.box 1 b _ rfl).1; have := glw.out; unfold Hid; omega
  obtain ⟨v0, v1⟩ := V.two
  clear hv vy yv vw yw hy
  generalize ((((((W1.alloc (.cells #[.slice none 0 0, .slice none 0 0] 26)).alloc (.cells #[.string ⟨#[]⟩, .int .i64 0, .bool false] 42)).setCell ⟨v, 0, none⟩ (.slice A n c)).setCell ⟨v, 1, none⟩ (.slice A' n' c')).setCell ⟨y, 0, none⟩ (.string s)).setCell ⟨y, 1, none⟩ (.int .i64 p9)).setCell ⟨y, 2, none⟩ (.bool l9) = V9 at *
  have RH := Lib.hid (M.box 2 r _ rfl).2
  have GH := Lib.hid hG
  have ML := Lib.hid M.bl
  have LA9 := Lib.hid (LA.next BN)
  have LB9 := Lib.hid (LB.next BN)
  clear LA LB V
  clear M hG B1 BN Y k0 k1 k2 m0 m1 m2
  go_region_held3 (fun w' => w'.cell? ⟨y, 0, none⟩ = some (.string s) ∧ w'.cell? ⟨y, 1, none⟩ = some (.int .i64 p9) ∧ w'.cell? ⟨y, 2, none⟩ = some (.bool l9) ∧ w'.cell? ⟨b, 1, none⟩ = some (.int .i64 most) ∧ w'.cell? ⟨v, 0, none⟩ = some (.slice A n c) ∧ w'.cell? ⟨v, 1, none⟩ = some (.slice A' n' c'))
    ((refine ⟨?_, ?_, ?_, ?_, ?_, ?_⟩ <;> (repeat (first | with_reducible exact y0 | with_reducible exact y1 | with_reducible exact y2 | with_reducible exact b1 | with_reducible exact z0 | with_reducible exact z1 | with_reducible exact z2 | with_reducible exact z3 | with_reducible exact x0 | with_reducible exact x1 | with_reducible exact x2 | with_reducible exact x3 | with_reducible exact v0 | with_reducible exact v1 | with_reducible exact z4 | with_reducible exact z5 | with_reducible exact x4 | with_reducible exact x5 | with_reducible refine keep_drew ?_ | refine keep_set ?_ _ (by first | exact yr.out | exact br.out | exact vr.out)))))
    (first
      | (go_at_call 27; (with_reducible refine (K2.out _ ?_).mono ?_); (· exact GH.out.drew); rintro e Z ⟨A2, n2, c2, A3, n3, c3, rfl, L2, L3, T⟩; have z0 := T.cell (p := ⟨y, 0, none⟩) yg.out y0; have z1 := T.cell (p := ⟨y, 1, none⟩) yg.out y1; have z2 := T.cell (p := ⟨y, 2, none⟩) yg.out y2; have z3 := T.cell (p := ⟨b, 1, none⟩) bg.out b1; have z4 := T.cell (p := ⟨v, 0, none⟩) vg.out v0; have z5 := T.cell (p := ⟨v, 1, none⟩) vg.out v1; have R2 := RH.out.drew.tk T rg.out; obtain ⟨j0, j1, j2⟩ := R2.three; have n0 := R2.melt 0; have n1 := R2.melt 1; have n2 := R2.melt 2)
      | (go_at_call 30; (with_reducible refine (KS.out _ _ _ _ _ _ _ _ _ _ _ _ _ L2 L3 (LA9.out.drew.tkb GH.out.drew (rdc_no _ _ _) T) (LB9.out.drew.tkb GH.out.drew (rdc_no _ _ _) T)).mono ?_); rintro e Z2 ⟨rfl, BS⟩; have x0 := keep_cell BS z0; have x1 := keep_cell BS z1; have x2 := keep_cell BS z2; have x3 := keep_cell BS z3; have x4 := keep_cell BS z4; have x5 := keep_cell BS z5; have R3 := R2.next BS; obtain ⟨i0, i1, i2⟩ := R3.three; have o0 := R3.melt 0; have o1 := R3.melt 1; have o2 := R3.melt 2))
  all_goals go_wp2_with fail
  have TT := ((((T.pre ML.out.drew).next BS).far rw_.out rg.out.symm 0 (.string s)).far rw_.out rg.out.symm 1 (.int .i64 p9)).far rw_.out rg.out.symm 2 (.bool l9)
  have R9 : Box _ r #[.string s, .int .i64 p9, .bool l9] := ((R3.set 0 (.string s)).set 1 (.int .i64 p9)).set 2 (.bool l9)
  have TH := Lib.hid TT
  clear TT
  generalize (World.setCell (World.setCell (World.setCell _ ⟨r, 0, none⟩ (.string s)) ⟨r, 1, none⟩ (.int .i64 p9)) ⟨r, 2, none⟩ (.bool l9)) = W9 at *
  obtain ⟨t0, t1, t2⟩ := R9.three
  refine bodyPost_ret (v := .tuple #[rd s p9 l9, .bool true]) ?_ rfl ?_
  · simp [results, Try.results21, go_sem, t0, t1, t2]
  · exact ⟨o, by rw [hp9.out, hl9.out], by rw [hp9.out, hl9.out]; exact TH.out⟩
theorem ask_wide {s : ByteArray} {p : Int} {lo : Bool} {g : Nat} {w : World} (hG : Box w g #[.string s, .int .i64 p, .bool lo]) (kind most : Int) (mb : -9223372036854775808 ≤ most ∧ most ≤ 9223372036854775807) (hs : s.size ≤ 600) (hk : kind ≠ 0 ∧ kind ≠ 1 ∧ kind ≠ 2 ∧ kind ≠ 3) : Calls Try.prog 21 #[.pointer (some ⟨g, 0, none⟩), rd s p lo, .agg #[.int .i64 kind, .int .i64 most]] w fun e w' =>
    ∃ o : Option Nat, e = .returned (.tuple #[rd s (rdoP p o) (rdoL o), .bool true]) ∧ Tk g #[.string s, .int .i64 (rdoP p o), .bool (rdoL o)] w w' := by
  have M0 := (((Own.new w).alloc rfl #[.string s, .int .i64 p, .bool lo] 42).alloc (World.size_alloc _ _) #[.int .i64 kind, .int .i64 most] 44).alloc (g := w.heap.size + 2) (by simp) #[.string ⟨#[]⟩, .int .i64 0, .bool false] 42
  have gl := hG.lt
  replace hG := hG.next M0.bl
  obtain ⟨a, ha⟩ : ∃ a, w.heap.size = a := ⟨_, rfl⟩
  rw [ha] at M0
  obtain ⟨b, hb⟩ : ∃ b, a + 1 = b := ⟨_, rfl⟩
  obtain ⟨r, hr⟩ : ∃ r, a + 2 = r := ⟨_, rfl⟩
  have hr2 : b + 1 = r := by omega
  rw [hb, hr] at M0
  have M : Own w [(a, #[.string s, .int .i64 p, .bool lo]), (b, #[.int .i64 kind, .int .i64 most]), (r, #[.string ⟨#[]⟩, .int .i64 0, .bool false])] _ := M0
  obtain ⟨c0, c1, c2⟩ := (M.box 0 a _ rfl).2.three
  obtain ⟨b0, b1⟩ := (M.box 1 b _ rfl).2.two
  have rw_ : Hid (w.heap.size ≤ r) := by unfold Hid; omega
  have rg : Hid (r ≠ g) := by unfold Hid; omega
  clear M0
  have e0 : (kind == 0) = false := by simpa using hk.1
  have e1 : (kind == 1) = false := by simpa using hk.2.1
  have e2 : (kind == 2) = false := by simpa using hk.2.2.1
  have e3 : (kind == 3) = false := by simpa using hk.2.2.2
  clear hk
  have GL : Hid (g < w.heap.size) := gl
  obtain ⟨o, ho⟩ : ∃ o : Option Nat, o = readW s p lo := ⟨_, rfl⟩
  obtain ⟨p9, hp9'⟩ : ∃ x, x = rdoP p o := ⟨_, rfl⟩
  obtain ⟨l9, hl9'⟩ : ∃ x, x = rdoL o := ⟨_, rfl⟩
  obtain ⟨u, hu⟩ : ∃ u, u = wideB (restB s p lo) (readW s p lo) := ⟨_, rfl⟩
  obtain ⟨q1, hq1⟩ : ∃ q, q = u.1 := ⟨_, rfl⟩
  obtain ⟨q2, hq2⟩ : ∃ q, q = u.2 := ⟨_, rfl⟩
  have EW : w128 u = .agg #[.int .u64 (q1 : Int), .int .u64 (q2 : Int)] := by rw [hq1, hq2]
  have K1 : Hid (∀ W, Calls Try.prog 40 #[rd s p lo] W fun e w' => e = .returned (.tuple #[.agg #[.int .u64 (q1 : Int), .int .u64 (q2 : Int)], rd s p9 l9]) ∧ Below W.heap.size W w') := fun W => by
    have := refReadWide_any s p lo (by omega) W
    rw [← hu, EW] at this
    rw [← ho, rdo_eq, ← hp9', ← hl9'] at this
    exact this
  have K2 : Hid (∀ W, Box W g #[.string s, .int .i64 p, .bool lo] → Calls Try.prog 28 #[.pointer (some ⟨g, 0, none⟩)] W fun e w' => e = .returned (.agg #[.int .u64 (q1 : Int), .int .u64 (q2 : Int)]) ∧ Tk g #[.string s, .int .i64 p9, .bool l9] W w') := fun W hW => by
    have := rWide_any hW (by omega)
    rw [← hu, EW] at this
    rw [← ho, rdc_eq, ← hp9', ← hl9'] at this
    exact this
  clear hu hq1 hq2 EW
  have hp9 := Lib.hid hp9'.symm
  have hl9 := Lib.hid hl9'.symm
  clear ho hp9' hl9' hs gl
  have glw : Hid (g < w.heap.size) := GL.out
  go_enter Try.func21, Try.ntmps21
  go_wp2_with fail
  clear ha hb hr hr2 c0 c1 c2 b0 b1
  generalize ((w.alloc (.cells #[.string s, .int .i64 p, .bool lo] 42)).alloc (.cells #[.int .i64 kind, .int .i64 most] 44)).alloc (.cells #[.string ⟨#[]⟩, .int .i64 0, .bool false] 42) = W at *
  refine (K1.out _).mono ?_
  rintro e W1 ⟨rfl, B1⟩
  replace M := M.next B1
  replace hG := hG.next B1
  obtain ⟨v, hv⟩ : ∃ v, W1.heap.size = v := ⟨_, rfl⟩
  obtain ⟨y, hy⟩ : ∃ y, v + 1 = y := ⟨_, rfl⟩
  have V0 := (Box.new W1 #[.int .u64 0, .int .u64 0] 28).alloc (.cells #[.string ⟨#[]⟩, .int .i64 0, .bool false] 42)
  have Y0 := Box.new (W1.alloc (.cells #[.int .u64 0, .int .u64 0] 28)) #[.string ⟨#[]⟩, .int .i64 0, .bool false] 42
  rw [World.size_alloc, hv, hy] at Y0
  rw [hv] at V0
  have vy : ¬ v = y := by omega
  have yv : ¬ y = v := by omega
  have B0 := below_al (below_one W1 (.cells #[.int .u64 0, .int .u64 0] 28)) (.cells #[.string ⟨#[]⟩, .int .i64 0, .bool false] 42)
  have vw : W1.heap.size ≤ v := by omega
  have yw : W1.heap.size ≤ y := by omega
  obtain ⟨f0, f1⟩ := V0.two
  obtain ⟨f2, f3, f4⟩ := Y0.three
  have g0 := V0.melt 0; have g1 := V0.melt 1; have g2 := Y0.melt 0; have g3 := Y0.melt 1; have g4 := Y0.melt 2
  go_wp2_with fail
  clear f0 f1 f2 f3 f4 g0 g1 g2 g3 g4
  have V : Box _ v #[.int .u64 (q1 : Int), .int .u64 (q2 : Int)] := (((( (V0.set 0 (.int .u64 (q1 : Int))).set 1 (.int .u64 (q2 : Int))).far (p := ⟨y, 0, none⟩) vy (.string s)).far (p := ⟨y, 1, none⟩) vy (.int .i64 p9)).far (p := ⟨y, 2, none⟩) vy (.bool l9))
  have Y : Box _ y #[.string s, .int .i64 p9, .bool l9] := ((((Y0.far (p := ⟨v, 0, none⟩) yv (.int .u64 (q1 : Int))).far (p := ⟨v, 1, none⟩) yv (.int .u64 (q2 : Int))).set 0 (.string s)).set 1 (.int .i64 p9)).set 2 (.bool l9)
  have BN := below_set (below_set (below_set (below_set (below_set B0 (p := ⟨v, 0, none⟩) vw (.int .u64 (q1 : Int))) (p := ⟨v, 1, none⟩) vw (.int .u64 (q2 : Int))) (p := ⟨y, 0, none⟩) yw (.string s)) (p := ⟨y, 1, none⟩) yw (.int .i64 p9)) (p := ⟨y, 2, none⟩) yw (.bool l9)
  have vg : Hid (v ≠ g) := by have := hG.lt; unfold Hid; omega
  have vr : Hid (v ≠ r) := by have := (M.box 2 r _ rfl).2.lt; unfold Hid; omega
  clear V0 Y0 B0
  have yg : Hid (y ≠ g) := by have := hG.lt; unfold Hid; omega
  have yr : Hid (y ≠ r) := by have := (M.box 2 r _ rfl).2.lt; unfold Hid; omega
  replace M := M.next BN
  replace hG := hG.next BN
  obtain ⟨b0, b1⟩ := (M.box 1 b _ rfl).2.two
  obtain ⟨k0, k1, k2⟩ := (M.box 2 r _ rfl).2.three
  have m0 := (M.box 2 r _ rfl).2.melt 0; have m1 := (M.box 2 r _ rfl).2.melt 1; have m2 := (M.box 2 r _ rfl).2.melt 2
  obtain ⟨y0, y1, y2⟩ := Y.three
  have br : Hid (b ≠ r) := M.ne 1 2 b r _ _ rfl rfl (by decide)
  have bg : Hid (b ≠ g) := by have h1 := (M.box 1 b _ rfl).1; have := glw.out; unfold Hid; omega
  obtain ⟨v0, v1⟩ := V.two
  clear hv vy yv vw yw hy
  generalize ((((((W1.alloc (.cells #[.int .u64 0, .int .u64 0] 28)).alloc (.cells #[.string ⟨#[]⟩, .int .i64 0, .bool false] 42)).setCell ⟨v, 0, none⟩ (.int .u64 (q1 : Int))).setCell ⟨v, 1, none⟩ (.int .u64 (q2 : Int))).setCell ⟨y, 0, none⟩ (.string s)).setCell ⟨y, 1, none⟩ (.int .i64 p9)).setCell ⟨y, 2, none⟩ (.bool l9) = V9 at *
  have RH := Lib.hid (M.box 2 r _ rfl).2
  have GH := Lib.hid hG
  have ML := Lib.hid M.bl
  clear V
  clear M hG B1 BN Y k0 k1 k2 m0 m1 m2
  go_region_held3 (fun w' => w'.cell? ⟨y, 0, none⟩ = some (.string s) ∧ w'.cell? ⟨y, 1, none⟩ = some (.int .i64 p9) ∧ w'.cell? ⟨y, 2, none⟩ = some (.bool l9) ∧ w'.cell? ⟨b, 1, none⟩ = some (.int .i64 most) ∧ w'.cell? ⟨v, 0, none⟩ = some (.int .u64 (q1 : Int)) ∧ w'.cell? ⟨v, 1, none⟩ = some (.int .u64 (q2 : Int)))
    ((refine ⟨?_, ?_, ?_, ?_, ?_, ?_⟩ <;> (repeat (first | with_reducible exact y0 | with_reducible exact y1 | with_reducible exact y2 | with_reducible exact b1 | with_reducible exact z0 | with_reducible exact z1 | with_reducible exact z2 | with_reducible exact z3 | with_reducible exact x0 | with_reducible exact x1 | with_reducible exact x2 | with_reducible exact x3 | with_reducible exact v0 | with_reducible exact v1 | with_reducible exact z4 | with_reducible exact z5 | with_reducible exact x4 | with_reducible exact x5 | with_reducible refine keep_drew ?_ | refine keep_set ?_ _ (by first | exact yr.out | exact br.out | exact vr.out)))))
    (first
      | (go_at_call 28; (with_reducible refine (K2.out _ ?_).mono ?_); (· exact GH.out.drew); rintro e Z ⟨rfl, T⟩; have z0 := T.cell (p := ⟨y, 0, none⟩) yg.out y0; have z1 := T.cell (p := ⟨y, 1, none⟩) yg.out y1; have z2 := T.cell (p := ⟨y, 2, none⟩) yg.out y2; have z3 := T.cell (p := ⟨b, 1, none⟩) bg.out b1; have z4 := T.cell (p := ⟨v, 0, none⟩) vg.out v0; have z5 := T.cell (p := ⟨v, 1, none⟩) vg.out v1; have R2 := RH.out.drew.tk T rg.out; obtain ⟨j0, j1, j2⟩ := R2.three; have n0 := R2.melt 0; have n1 := R2.melt 1; have n2 := R2.melt 2))
  all_goals go_wp2_with fail
  have TT := (((T.pre ML.out.drew).far rw_.out rg.out.symm 0 (.string s)).far rw_.out rg.out.symm 1 (.int .i64 p9)).far rw_.out rg.out.symm 2 (.bool l9)
  have R9 : Box _ r #[.string s, .int .i64 p9, .bool l9] := ((R2.set 0 (.string s)).set 1 (.int .i64 p9)).set 2 (.bool l9)
  have TH := Lib.hid TT
  clear TT
  generalize (World.setCell (World.setCell (World.setCell _ ⟨r, 0, none⟩ (.string s)) ⟨r, 1, none⟩ (.int .i64 p9)) ⟨r, 2, none⟩ (.bool l9)) = W9 at *
  obtain ⟨t0, t1, t2⟩ := R9.three
  refine bodyPost_ret (v := .tuple #[rd s p9 l9, .bool true]) ?_ rfl ?_
  · simp [results, Try.results21, go_sem, t0, t1, t2]
  · exact ⟨o, by rw [hp9.out, hl9.out], by rw [hp9.out, hl9.out]; exact TH.out⟩
theorem asked8_any {s : ByteArray} {p : Int} {lo : Bool} {g : Nat} {w : World} (hG : Box w g #[.string s, .int .i64 p, .bool lo]) (kind most : Int) (mb : -9223372036854775808 ≤ most ∧ most ≤ 9223372036854775807) (hs : s.size ≤ 600) : Calls Try.prog 21 #[.pointer (some ⟨g, 0, none⟩), rd s p lo, .agg #[.int .i64 kind, .int .i64 most]] w fun e w' =>
    ∃ o : Option Nat, e = .returned (.tuple #[rd s (rdoP p o) (rdoL o), .bool true]) ∧ Tk g #[.string s, .int .i64 (rdoP p o), .bool (rdoL o)] w w' := by
  by_cases h0 : kind = 0
  · exact ask_num hG kind most mb hs h0
  by_cases h1 : kind = 1
  · exact ask_txt hG kind most mb hs h1
  by_cases h2 : kind = 2
  · exact ask_nat hG kind most mb hs h2
  by_cases h3 : kind = 3
  · exact ask_rat hG kind most mb hs h3
  exact ask_wide hG kind most mb hs ⟨h0, h1, h2, h3⟩
end Go.Proofs.Ytacobmnghdibaaa
namespace Go.Proofs.Ytacobmnghdibaaa
open Go.RowKit
set_option linter.unusedVariables false
set_option linter.unusedSimpArgs false
set_option maxHeartbeats 1000000
set_option maxRecDepth 100000
theorem same8_any {s : ByteArray} {p : Int} {lo : Bool} {g : Nat} {w : World} (h : Box w g #[.string s, .int .i64 p, .bool lo]) : Calls Try.prog 22 #[.pointer (some ⟨g, 0, none⟩), rd s p lo] w fun e w' => e = .returned (.bool true) ∧ Below w.heap.size w w' := by
  have B0 : Below w.heap.size w (w.alloc (.cells #[.string s, .int .i64 p, .bool lo] 42)) := below_one w _
  have Q := Box.new w #[.string s, .int .i64 p, .bool lo] 42
  replace h := h.next B0
  obtain ⟨q, hq⟩ : ∃ q, w.heap.size = q := ⟨_, rfl⟩
  rw [hq] at Q
  have BH := Lib.hid B0
  go_enter Try.func22, Try.ntmps22
  go_wp2_with fail
  clear hq B0
  generalize w.alloc (.cells #[.string s, .int .i64 p, .bool lo] 42) = W at *
  obtain ⟨c0, c1, c2⟩ := h.three
  obtain ⟨q0, q1, q2⟩ := Q.three
  have e1 : (p == p) = true := by simp
  have e2 : (lo == lo) = true := by simp
  go_quiet (fail)
  go_wp2_with fail
  go_ret
  exact ⟨rfl, below_drewN BH.out _⟩
end Go.Proofs.Ytacobmnghdibaaa
