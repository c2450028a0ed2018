/- The program's walks of asked and of Rat. The program's walks of asked and of Wide. The fixed answer. -/
import Derived.Test.YtacobmnghdibaaaJ13
import Derived.Test.YtacobmnghdibaaaJ12
namespace Go.Proofs.Ytacobmnghdibaaa
open Go.RowKit
set_option linter.unusedVariables false
set_option linter.unusedSimpArgs false
set_option maxHeartbeats 1000000
set_option maxRecDepth 100000
theorem ratM_le {l : List UInt8} {xs ys : List Nat} {k : Nat} (h : ratM l = some (xs, ys, k)) : k ≤ l.length := by
  unfold ratM at h
  split at h
  · rename_i xs1 k1 h1
    split at h
    · rename_i ys2 k2 h2
      split at h
      · injection h with h
        have a := natM_le h1
        have b := natM_le h2
        rw [List.length_drop] at b
        simp only [Prod.mk.injEq] at h
        omega
      · cases h
    · cases h
  · cases h
theorem rat1_any {b : ByteArray} {g : Nat} {w : World} (h : Box w g #[.string b]) (hs : b.size ≤ 281474976710656) : Calls Try.prog 51 #[.pointer (some ⟨g, 0, none⟩)] w fun e w' => RetPQ (ratM (L b)) b g w e w' := by
  have hlt := h.lt
  have T : Tk g #[.string b] w (w.alloc (.cells #[.slice none 0 0, .slice none 0 0] 26)) := (Tk.refl h).alloc _
  have R := Box.new w #[.slice none 0 0, .slice none 0 0] 26
  have SZ : Hid ((w.alloc (.cells #[.slice none 0 0, .slice none 0 0] 26)).heap.size = w.heap.size + 1) := by unfold Hid; simp
  obtain ⟨r, hr⟩ : ∃ r, w.heap.size = r := ⟨_, rfl⟩
  rw [hr] at R SZ
  have hne : Hid (g ≠ r) := by unfold Hid; omega
  have hrw : Hid (w.heap.size ≤ r) := by unfold Hid; omega
  have K : Hid (∀ W, Box W g #[.string b] → _) := fun W hW => ratW_any (w := W) hW hs
  clear hlt h
  cases hn : ratM (L b) with
  | none =>
    rw [hn] at K
    clear hn
    go_enter Try.func51, Try.ntmps51
    go_wp2_with fail
    clear hr
    generalize w.alloc (.cells #[.slice none 0 0, .slice none 0 0] 26) = W at *
    refine (K.out _ T.box).mono ?_
    rintro e z ⟨rfl, r9, T1⟩
    go_wp2_with fail
    exact ⟨rfl, rfl, r9, T.trans T1⟩
  | some x =>
    obtain ⟨xs, ys, k⟩ := x
    rw [hn] at K
    clear hn
    go_enter Try.func51, Try.ntmps51
    go_wp2_with fail
    clear hr
    generalize w.alloc (.cells #[.slice none 0 0, .slice none 0 0] 26) = W at *
    refine (K.out _ T.box).mono ?_
    rintro e z ⟨A, n, c, A', n', c', rfl, LA, LB, FA, FB, T1⟩
    replace R := R.tk T1 hne.out.symm
    replace T := T.trans T1
    obtain ⟨d0, d1⟩ := R.two
    have m0 := R.melt 0; have m1 := R.melt 1
    clear T1
    go_wp2_with fail
    clear d0 d1 m0 m1
    replace R : Box _ r #[.slice A n c, .slice A' n' c'] := (R.set 0 (.slice A n c)).set 1 (.slice A' n' c')
    have fa : ∀ ad, A = some ad → ad.block ≠ r := fun ad ha => by have := FA ad ha; have := SZ.out; omega
    have fb : ∀ ad, A' = some ad → ad.block ≠ r := fun ad ha => by have := FB ad ha; have := SZ.out; omega
    replace LA := (LA.put (p := ⟨r, 0, none⟩) fa (.slice A n c)).put (p := ⟨r, 1, none⟩) fa (.slice A' n' c')
    replace LB := (LB.put (p := ⟨r, 0, none⟩) fb (.slice A n c)).put (p := ⟨r, 1, none⟩) fb (.slice A' n' c')
    replace T := (T.far hrw.out hne.out 0 (.slice A n c)).far hrw.out hne.out 1 (.slice A' n' c')
    have FA2 : Hid (∀ ad, A = some ad → w.heap.size ≤ ad.block) := fun ad ha => by have := FA ad ha; have := SZ.out; have := hrw.out; omega
    have FB2 : Hid (∀ ad, A' = some ad → w.heap.size ≤ ad.block) := fun ad ha => by have := FB ad ha; have := SZ.out; have := hrw.out; omega
    clear fa fb FA FB
    generalize (World.setCell (World.setCell _ ⟨r, 0, none⟩ (.slice A n c)) ⟨r, 1, none⟩ (.slice A' n' c')) = W9 at *
    obtain ⟨c0, c1⟩ := R.two
    refine bodyPost_ret (v := .agg #[.slice A n c, .slice A' n' c']) (by simp [results, Try.results51, go_sem, c0, c1]) rfl ?_
    exact ⟨A, n, c, A', n', c', rfl, LA, LB, FA2.out, FB2.out, T⟩
/-- A fraction, and how many bytes it has, or none. -/
@[irreducible] noncomputable def readQ (s : ByteArray) (p : Int) (lo : Bool) : Option (List Nat × List Nat × Nat) := if okR s.size p lo = true then ratM (L (restB s p lo)) else none
theorem readQ_ratM (s : ByteArray) (p : Int) (lo : Bool) : readQ s p lo = if okR s.size p lo = true then ratM (L (restB s p lo)) else none := by unfold readQ; rfl
/-- What Rat answers. -/
def RetRQ (x : Option (List Nat × List Nat × Nat)) (s : ByteArray) (p : Int) (g : Nat) (w : World) (e : Ending) (w' : World) : Prop :=
  ∃ A n c A' n' c', e = .returned (.agg #[.slice A n c, .slice A' n' c']) ∧ Lim w' A n c ((x.map fun y => y.1).getD []) ∧ Lim w' A' n' c' ((x.map fun y => y.2.1).getD []) ∧ (∀ ad, A = some ad → w.heap.size ≤ ad.block) ∧ (∀ ad, A' = some ad → w.heap.size ≤ ad.block) ∧ Tk g (rdc s p (x.map fun y => y.2.2)) w w'
theorem RetRQ.no {s : ByteArray} {p : Int} {g : Nat} {w w' : World} (T : Tk g #[.string s, .int .i64 p, .bool true] w w') : RetRQ none s p g w (.returned (.agg #[.slice none 0 0, .slice none 0 0])) w' :=
  ⟨none, 0, 0, none, 0, 0, rfl, Lim.none_ _ _ _ (by decide), Lim.none_ _ _ _ (by decide), (fun ad h => by cases h), (fun ad h => by cases h), T⟩
theorem askedQ_any {s : ByteArray} {p : Int} {lo : Bool} {g : Nat} {w : World} (h : Box w g #[.string s, .int .i64 p, .bool lo]) (hs : s.size ≤ 281474976710656) :
    Calls Try.prog 50 #[.pointer (some ⟨g, 0, none⟩), .func (.func 51) #[] #[]] w fun e w' => RetRQ (readQ s p lo) s p g w e w' := by
  have hmf : ∀ (fn : Fn) (first cap : Array Value) (w : World), (Instr.makeFunc fn first cap).run Try.prog w = .ok (.func fn first cap) w := fun _ _ _ _ => rfl
  rw [readQ_ratM s p lo]
  have hlt := h.lt
  have T : Tk g #[.string s, .int .i64 p, .bool lo] w ((w.alloc (.cells #[.pointer (some ⟨g, 0, none⟩)] 39)).alloc (.cells #[.slice none 0 0, .slice none 0 0] 26)) := ((Tk.refl h).alloc _).alloc _
  have Q := (Box.new w #[.pointer (some ⟨g, 0, none⟩)] 39).alloc (.cells #[.slice none 0 0, .slice none 0 0] 26)
  have R := Box.new (w.alloc (.cells #[.pointer (some ⟨g, 0, none⟩)] 39)) #[.slice none 0 0, .slice none 0 0] 26
  have SZ : Hid (((w.alloc (.cells #[.pointer (some ⟨g, 0, none⟩)] 39)).alloc (.cells #[.slice none 0 0, .slice none 0 0] 26)).heap.size = w.heap.size + 2) := by unfold Hid; simp
  rw [World.size_alloc] at R
  obtain ⟨q, hq⟩ : ∃ q, w.heap.size = q := ⟨_, rfl⟩
  rw [hq] at Q R SZ
  obtain ⟨r, hr⟩ : ∃ r, q + 1 = r := ⟨_, rfl⟩
  rw [hr] at R
  have rg : Hid (r ≠ g) := by unfold Hid; omega
  have rq : Hid (r ≠ q) := by unfold Hid; omega
  have rw_ : Hid (w.heap.size ≤ r) := by unfold Hid; omega
  have r2 : Hid (r < q + 2) := by unfold Hid; omega
  have gq : Hid (q ≠ g) := by unfold Hid; omega
  have wq : Hid (w.heap.size ≤ q) := by unfold Hid; omega
  clear hlt h
  cases ok : okR s.size p lo with
  | false =>
    rw [if_neg (by decide)]
    have KA : Hid (∀ W, Box W g #[.string s, .int .i64 p, .bool lo] → _) := fun W hW => ahead_no (w := W) hW ok
    clear ok
    have c0 := Q.cell (i := 0) rfl
    go_enter_defers Try.func50, Try.ntmps50
    go_wp2_with fail
    clear hq hr
    generalize (w.alloc (.cells #[.pointer (some ⟨g, 0, none⟩)] 39)).alloc (.cells #[.slice none 0 0, .slice none 0 0] 26) = W at *
    refine (KA.out _ T.box).mono ?_
    rintro e z ⟨rfl, B1⟩
    replace T := T.next B1
    replace Q := Q.next B1
    replace R := R.next B1
    clear B1 c0
    go_wp2_with fail
    refine leaves_cons (f := 76) (args := #[.pointer (some ⟨q, 0, none⟩)]) (by simp) (by simp [go_sem]) ?_
    refine (catchQ_lost (g := g) (s := s) (p := p) (lo := lo) (Q.cell (i := 0) rfl) T.box).mono ?_
    rintro e u' w'' ⟨rfl, rfl, rfl⟩
    have TT : Tk g #[.string s, .int .i64 p, .bool true] w _ := T.set 2 (.bool true)
    obtain ⟨x0, x1⟩ := (R.far (p := ⟨g, 2, none⟩) rg.out (.bool true)).two
    have TH := Lib.hid TT
    clear TT
    generalize World.setCell _ ⟨g, 2, none⟩ (.bool true) = W9 at *
    simp [Leaves, settle, results, Try.results50, go_sem, x0, x1]
    exact RetRQ.no TH.out
  | true =>
    obtain ⟨rfl, i, rfl, hi⟩ := okR_yes ok
    rw [if_pos rfl, restB_yes hi]
    have KA : Hid (∀ W, Box W g #[.string s, .int .i64 (i : Int), .bool false] → _) := fun W hW => ahead_yes (w := W) hW hi hs
    obtain ⟨b, hb⟩ : ∃ b, b = s.extract i s.size := ⟨_, rfl⟩
    have bsz : b.size = s.size - i := by rw [hb, ByteArray.size_extract]; omega
    rw [← hb] at KA ⊢
    have KB : Hid (∀ W l, Box W l #[.string b] → _) := fun W l hW => rat1_any (w := W) (g := l) hW (by omega)
    clear ok hb
    cases hn : ratM (L b) with
    | none =>
      rw [hn] at KB
      clear hn bsz hi hs
      have c0 := Q.cell (i := 0) rfl
      go_enter_defers Try.func50, Try.ntmps50
      go_wp2_with fail
      clear hq hr
      generalize (w.alloc (.cells #[.pointer (some ⟨g, 0, none⟩)] 39)).alloc (.cells #[.slice none 0 0, .slice none 0 0] 26) = W at *
      refine (KA.out _ T.box).mono ?_
      rintro e z ⟨l, rfl, hl, BX, B1⟩
      have lg : Hid (l ≠ g) := by have := T.box.lt; unfold Hid; omega
      have lw : Hid (w.heap.size ≤ l) := by have := T.size; unfold Hid; omega
      have lq : Hid (l ≠ q) := by have := Q.lt; unfold Hid; omega
      have lr : Hid (l ≠ r) := by have := R.lt; unfold Hid; omega
      replace T := T.next B1
      replace Q := Q.next B1
      replace R := R.next B1
      clear B1 c0 hl
      go_wp2_with fail
      refine (KB.out _ _ BX).mono ?_
      rintro e z2 ⟨rfl, r9, T2⟩
      have T9 : Tk g #[.string s, .int .i64 (i : Int), .bool false] w z2 := T.other T2 lw.out lg.out
      replace Q := Q.tk T2 lq.out.symm
      replace R := R.tk T2 lr.out.symm
      clear T2 BX
      go_wp2_with fail
      refine leaves_cons (f := 76) (args := #[.pointer (some ⟨q, 0, none⟩)]) (by simp) (by simp [go_sem]) ?_
      refine (catchQ_lost (g := g) (s := s) (p := (i : Int)) (lo := false) (Q.cell (i := 0) rfl) T9.box).mono ?_
      rintro e u' w'' ⟨rfl, rfl, rfl⟩
      have TT : Tk g #[.string s, .int .i64 (i : Int), .bool true] w _ := T9.set 2 (.bool true)
      obtain ⟨x0, x1⟩ := (R.far (p := ⟨g, 2, none⟩) rg.out (.bool true)).two
      have TH := Lib.hid TT
      clear TT
      generalize World.setCell _ ⟨g, 2, none⟩ (.bool true) = W9 at *
      simp [Leaves, settle, results, Try.results50, go_sem, x0, x1]
      exact RetRQ.no TH.out
    | some x =>
      obtain ⟨xs, ys, k⟩ := x
      have kl := ratM_le hn
      rw [L_len] at kl
      rw [hn] at KB
      obtain ⟨b2, hb2⟩ : ∃ x, x = b.extract k b.size := ⟨_, rfl⟩
      have b2s : b2.size = b.size - k := by rw [hb2, ByteArray.size_extract]; omega
      have HB2 := Lib.hid hb2
      obtain ⟨j, hj⟩ : ∃ j : Int, j = (i : Int) + (k : Int) := ⟨_, rfl⟩
      have ew : IntKind.i64.wrap ((s.size : Int) - b2.size) = j := by rw [IntKind.wrap_i64]; omega
      have HJ := Lib.hid hj
      clear hn bsz hi hs hb2 b2s kl hj
      have c0 := Q.cell (i := 0) rfl
      go_enter_defers Try.func50, Try.ntmps50
      go_wp2_with fail
      clear hq hr
      generalize (w.alloc (.cells #[.pointer (some ⟨g, 0, none⟩)] 39)).alloc (.cells #[.slice none 0 0, .slice none 0 0] 26) = W at *
      refine (KA.out _ T.box).mono ?_
      rintro e z ⟨l, rfl, hl, BX, B1⟩
      have lg : Hid (l ≠ g) := by have := T.box.lt; unfold Hid; omega
      have lw : Hid (w.heap.size ≤ l) := by have := T.size; unfold Hid; omega
      have lq : Hid (l ≠ q) := by have := Q.lt; unfold Hid; omega
      have lr : Hid (l ≠ r) := by have := R.lt; unfold Hid; omega
      replace T := T.next B1
      replace Q := Q.next B1
      replace R := R.next B1
      have rz : Hid (r < z.heap.size) := R.lt
      have zg : Hid (g < z.heap.size ∧ w.heap.size ≤ z.heap.size) := ⟨T.box.lt, T.size⟩
      clear B1 c0 hl
      go_wp2_with fail
      refine (KB.out _ _ BX).mono ?_
      rintro e z2 ⟨A, n, c, A', n', c', rfl, LA, LB, FA, FB, T2⟩
      rw [← HB2.out] at T2
      have FA2 : Hid (∀ ad, A = some ad → w.heap.size ≤ ad.block ∧ ad.block ≠ g ∧ ad.block ≠ r) := fun ad ha => by have := FA ad ha; have := zg.out; have := rz.out; omega
      have FB2 : Hid (∀ ad, A' = some ad → w.heap.size ≤ ad.block ∧ ad.block ≠ g ∧ ad.block ≠ r) := fun ad ha => by have := FB ad ha; have := zg.out; have := rz.out; omega
      have T9 : Tk g #[.string s, .int .i64 (i : Int), .bool false] w z2 := T.other T2 lw.out lg.out
      replace Q := Q.tk T2 lq.out.symm
      replace R := R.tk T2 lr.out.symm
      have BL := T2.box
      clear T2 BX T FA FB
      obtain ⟨x0, x1⟩ := R.two
      have y0 := R.melt 0; have y1 := R.melt 1
      go_wp2_with fail
      clear x0 x1 y0 y1
      replace R : Box _ r #[.slice A n c, .slice A' n' c'] := (R.set 0 (.slice A n c)).set 1 (.slice A' n' c')
      replace LA := (LA.put (p := ⟨r, 0, none⟩) (fun ad ha => (FA2.out ad ha).2.2) (.slice A n c)).put (p := ⟨r, 1, none⟩) (fun ad ha => (FA2.out ad ha).2.2) (.slice A' n' c')
      replace LB := (LB.put (p := ⟨r, 0, none⟩) (fun ad ha => (FB2.out ad ha).2.2) (.slice A n c)).put (p := ⟨r, 1, none⟩) (fun ad ha => (FB2.out ad ha).2.2) (.slice A' n' c')
      replace T9 := (T9.far rw_.out rg.out.symm 0 (.slice A n c)).far rw_.out rg.out.symm 1 (.slice A' n' c')
      replace Q := (Q.far (p := ⟨r, 0, none⟩) rq.out.symm (.slice A n c)).far (p := ⟨r, 1, none⟩) rq.out.symm (.slice A' n' c')
      replace BL := (BL.far (p := ⟨r, 0, none⟩) lr.out (.slice A n c)).far (p := ⟨r, 1, none⟩) lr.out (.slice A' n' c')
      generalize (z2.setCell ⟨r, 0, none⟩ (.slice A n c)).setCell ⟨r, 1, none⟩ (.slice A' n' c') = z3 at *
      replace R := R.drew; replace LA := LA.drew; replace LB := LB.drew; replace T9 := T9.drew; replace Q := Q.drew; replace BL := BL.drew
      have LAH := Lib.hid LA; have LBH := Lib.hid LB
      clear LA LB
      refine wp_region_still_tail 14 (by kernel_rfl) (by kernel_rfl) ?_
      simp only [List.take_succ_cons, List.take_zero, List.drop_succ_cons, List.drop_zero]
      change wpStill _ _ z3.drew _ _ _
      have c0 := Q.cell (i := 0) rfl
      obtain ⟨c1, c2, c3⟩ := T9.box.three
      have c4 := BL.cell (i := 0) rfl
      have m1 := T9.box.melt 1
      refine still_of_quiet ?_
      repeat (go_big_quiet_step (fail))
      refine wpQuiet_nil ?_
      change wpList _ _ _ _ _ z3.drew
      generalize z3.drew = Z at *
      obtain ⟨x0, x1⟩ := (R.far (p := ⟨g, 1, none⟩) rg.out (.int .i64 j)).two
      have y0 := (R.far (p := ⟨g, 1, none⟩) rg.out (.int .i64 j)).melt 0
      have y1 := (R.far (p := ⟨g, 1, none⟩) rg.out (.int .i64 j)).melt 1
      go_wp2_with fail
      clear x0 x1 y0 y1
      have R9 : Box _ r #[.slice A n c, .slice A' n' c'] := ((R.far (p := ⟨g, 1, none⟩) rg.out (.int .i64 j)).set 0 (.slice A n c)).set 1 (.slice A' n' c')
      have TT : Tk g #[.string s, .int .i64 j, .bool false] w _ := ((T9.set 1 (.int .i64 j)).far rw_.out rg.out.symm 0 (.slice A n c)).far rw_.out rg.out.symm 1 (.slice A' n' c')
      have LT := ((LAH.out.put (p := ⟨g, 1, none⟩) (fun ad ha => (FA2.out ad ha).2.1) (.int .i64 j)).put (p := ⟨r, 0, none⟩) (fun ad ha => (FA2.out ad ha).2.2) (.slice A n c)).put (p := ⟨r, 1, none⟩) (fun ad ha => (FA2.out ad ha).2.2) (.slice A' n' c')
      have LU := ((LBH.out.put (p := ⟨g, 1, none⟩) (fun ad ha => (FB2.out ad ha).2.1) (.int .i64 j)).put (p := ⟨r, 0, none⟩) (fun ad ha => (FB2.out ad ha).2.2) (.slice A n c)).put (p := ⟨r, 1, none⟩) (fun ad ha => (FB2.out ad ha).2.2) (.slice A' n' c')
      generalize ((Z.setCell ⟨g, 1, none⟩ (.int .i64 j)).setCell ⟨r, 0, none⟩ (.slice A n c)).setCell ⟨r, 1, none⟩ (.slice A' n' c') = W9 at *
      refine leaves_cons (f := 76) (args := #[.pointer (some ⟨q, 0, none⟩)]) (by simp) (by simp [go_sem]) ?_
      refine (catchQ_idle ⟨q, 0, none⟩ _).mono ?_
      rintro e u' w'' ⟨rfl, rfl, rfl⟩
      obtain ⟨x0, x1⟩ := R9.two
      have TH := Lib.hid TT; have LTH := Lib.hid LT; have LUH := Lib.hid LU
      clear TT LT LU
      simp [Leaves, settle, results, Try.results50, go_sem, x0, x1]
      have TT := TH.out
      rw [HJ.out] at TT
      exact ⟨A, n, c, A', n', c', rfl, LTH.out, LUH.out, fun ad ha => (FA2.out ad ha).1, fun ad ha => (FB2.out ad ha).1, TT⟩
theorem rRat_any {s : ByteArray} {p : Int} {lo : Bool} {g : Nat} {w : World} (h : Box w g #[.string s, .int .i64 p, .bool lo]) (hs : s.size ≤ 281474976710656) :
    Calls Try.prog 27 #[.pointer (some ⟨g, 0, none⟩)] w fun e w' => RetRQ (readQ s p lo) s p g w e w' := by
  have hlt := h.lt
  have T : Tk g #[.string s, .int .i64 p, .bool lo] w (w.alloc (.cells #[.slice none 0 0, .slice none 0 0] 26)) := (Tk.refl h).alloc _
  have R := Box.new w #[.slice none 0 0, .slice none 0 0] 26
  have SZ : Hid ((w.alloc (.cells #[.slice none 0 0, .slice none 0 0] 26)).heap.size = w.heap.size + 1) := by unfold Hid; simp
  obtain ⟨r, hr⟩ : ∃ r, w.heap.size = r := ⟨_, rfl⟩
  rw [hr] at R SZ
  have hne : Hid (g ≠ r) := by unfold Hid; omega
  have hrw : Hid (w.heap.size ≤ r) := by unfold Hid; omega
  have K : Hid (∀ W, Box W g #[.string s, .int .i64 p, .bool lo] → _) := fun W hW => askedQ_any (w := W) hW hs
  clear hlt h
  go_enter Try.func27, Try.ntmps27
  go_wp2_with fail
  clear hr
  generalize w.alloc (.cells #[.slice none 0 0, .slice none 0 0] 26) = W at *
  refine (K.out _ T.box).mono ?_
  rintro e z ⟨A, n, c, A', n', c', rfl, LA, LB, FA, FB, T1⟩
  replace R := R.tk T1 hne.out.symm
  replace T := T.trans T1
  obtain ⟨d0, d1⟩ := R.two
  have m0 := R.melt 0; have m1 := R.melt 1
  clear T1
  go_wp2_with fail
  clear d0 d1 m0 m1
  replace R : Box _ r #[.slice A n c, .slice A' n' c'] := (R.set 0 (.slice A n c)).set 1 (.slice A' n' c')
  have fa : ∀ ad, A = some ad → ad.block ≠ r := fun ad ha => by have := FA ad ha; have := SZ.out; omega
  have fb : ∀ ad, A' = some ad → ad.block ≠ r := fun ad ha => by have := FB ad ha; have := SZ.out; omega
  replace LA := (LA.put (p := ⟨r, 0, none⟩) fa (.slice A n c)).put (p := ⟨r, 1, none⟩) fa (.slice A' n' c')
  replace LB := (LB.put (p := ⟨r, 0, none⟩) fb (.slice A n c)).put (p := ⟨r, 1, none⟩) fb (.slice A' n' c')
  replace T := (T.far hrw.out hne.out 0 (.slice A n c)).far hrw.out hne.out 1 (.slice A' n' c')
  have FA2 : Hid (∀ ad, A = some ad → w.heap.size ≤ ad.block) := fun ad ha => by have := FA ad ha; have := SZ.out; have := hrw.out; omega
  have FB2 : Hid (∀ ad, A' = some ad → w.heap.size ≤ ad.block) := fun ad ha => by have := FB ad ha; have := SZ.out; have := hrw.out; omega
  clear fa fb FA FB
  generalize (World.setCell (World.setCell _ ⟨r, 0, none⟩ (.slice A n c)) ⟨r, 1, none⟩ (.slice A' n' c')) = W9 at *
  obtain ⟨c0, c1⟩ := R.two
  refine bodyPost_ret (v := .agg #[.slice A n c, .slice A' n' c']) (by simp [results, Try.results27, go_sem, c0, c1]) rfl ?_
  exact ⟨A, n, c, A', n', c', rfl, LA, LB, FA2.out, FB2.out, T⟩
end Go.Proofs.Ytacobmnghdibaaa
namespace Go.Proofs.Ytacobmnghdibaaa
open Go.RowKit
set_option linter.unusedVariables false
set_option linter.unusedSimpArgs false
set_option maxHeartbeats 1000000
set_option maxRecDepth 100000
theorem wideM_le {n k : Nat} (h : wideM n = some k) : k ≤ n := by
  by_cases c : 16 ≤ n
  · rw [wideM_yes c] at h; injection h with h; omega
  · rw [wideM_no c] at h; cases h
theorem wide1_any {b : ByteArray} {g : Nat} {w : World} (h : Box w g #[.string b]) (hs : b.size ≤ 281474976710656) : Calls Try.prog 54 #[.pointer (some ⟨g, 0, none⟩)] w fun e w' => RetP ((wideM b.size).map fun k => (w128 (wideB b (some k)), b.extract k b.size)) g w e w' := by
  have hlt := h.lt
  have T : Tk g #[.string b] w (w.alloc (.cells #[.int .u64 0, .int .u64 0] 28)) := (Tk.refl h).alloc _
  have R := Box.new w #[.int .u64 0, .int .u64 0] 28
  obtain ⟨r, hr⟩ : ∃ r, w.heap.size = r := ⟨_, rfl⟩
  rw [hr] at R
  have hne : Hid (g ≠ r) := by unfold Hid; omega
  have hrw : Hid (w.heap.size ≤ r) := by unfold Hid; omega
  have K : Hid (∀ W, Box W g #[.string b] → _) := fun W hW => wide_any (w := W) hW hs
  clear hlt h
  cases hn : wideM b.size with
  | none =>
    rw [hn] at K
    clear hn
    go_enter Try.func54, Try.ntmps54
    go_wp2_with fail
    clear hr
    generalize w.alloc (.cells #[.int .u64 0, .int .u64 0] 28) = W at *
    refine (K.out _ T.box).mono ?_
    rintro e z ⟨rfl, r9, T1⟩
    go_wp2_with fail
    exact ⟨rfl, rfl, r9, T.trans T1⟩
  | some x =>
    rw [hn] at K
    rw [Option.map_some] at K ⊢
    generalize wideB b (some x) = v at *
    clear hn
    go_enter Try.func54, Try.ntmps54
    go_wp2_with fail
    clear hr
    generalize w.alloc (.cells #[.int .u64 0, .int .u64 0] 28) = W at *
    refine (K.out _ T.box).mono ?_
    rintro e z ⟨rfl, T1⟩
    replace R := R.tk T1 hne.out.symm
    replace T := T.trans T1
    obtain ⟨d0, d1⟩ := R.two
    have m0 := R.melt 0; have m1 := R.melt 1
    clear T1
    go_wp2_with fail
    clear d0 d1 m0 m1
    replace R : Box _ r #[.int .u64 (v.1 : Int), .int .u64 (v.2 : Int)] := (R.set 0 (.int .u64 (v.1 : Int))).set 1 (.int .u64 (v.2 : Int))
    replace T := (T.far hrw.out hne.out 0 (.int .u64 (v.1 : Int))).far hrw.out hne.out 1 (.int .u64 (v.2 : Int))
    generalize (World.setCell (World.setCell _ ⟨r, 0, none⟩ (.int .u64 (v.1 : Int))) ⟨r, 1, none⟩ (.int .u64 (v.2 : Int))) = W9 at *
    obtain ⟨c0, c1⟩ := R.two
    refine bodyPost_ret (v := .agg #[.int .u64 (v.1 : Int), .int .u64 (v.2 : Int)]) (by simp [results, Try.results54, go_sem, c0, c1]) rfl ?_
    exact ⟨rfl, T⟩
theorem askedW_any {s : ByteArray} {p : Int} {lo : Bool} {g : Nat} {w : World} (h : Box w g #[.string s, .int .i64 p, .bool lo]) (hs : s.size ≤ 281474976710656) :
    Calls Try.prog 53 #[.pointer (some ⟨g, 0, none⟩), .func (.func 54) #[] #[]] w fun e w' => e = .returned (w128 (wideB (restB s p lo) (readW s p lo))) ∧ Tk g (rdc s p (readW s p lo)) w w' := by
  have hmf : ∀ (fn : Fn) (first cap : Array Value) (w : World), (Instr.makeFunc fn first cap).run Try.prog w = .ok (.func fn first cap) w := fun _ _ _ _ => rfl
  rw [readW_wideM s p lo]
  have hlt := h.lt
  have T : Tk g #[.string s, .int .i64 p, .bool lo] w ((w.alloc (.cells #[.pointer (some ⟨g, 0, none⟩)] 39)).alloc (.cells #[.int .u64 0, .int .u64 0] 28)) := ((Tk.refl h).alloc _).alloc _
  have Q := (Box.new w #[.pointer (some ⟨g, 0, none⟩)] 39).alloc (.cells #[.int .u64 0, .int .u64 0] 28)
  have R := Box.new (w.alloc (.cells #[.pointer (some ⟨g, 0, none⟩)] 39)) #[.int .u64 0, .int .u64 0] 28
  rw [World.size_alloc] at R
  obtain ⟨q, hq⟩ : ∃ q, w.heap.size = q := ⟨_, rfl⟩
  rw [hq] at Q R
  obtain ⟨r, hr⟩ : ∃ r, q + 1 = r := ⟨_, rfl⟩
  rw [hr] at R
  have rg : Hid (r ≠ g) := by unfold Hid; omega
  have rq : Hid (r ≠ q) := by unfold Hid; omega
  have rw_ : Hid (w.heap.size ≤ r) := by unfold Hid; omega
  have r2 : Hid (r < q + 2) := by unfold Hid; omega
  have gq : Hid (q ≠ g) := by unfold Hid; omega
  have wq : Hid (w.heap.size ≤ q) := by unfold Hid; omega
  clear hlt h
  cases ok : okR s.size p lo with
  | false =>
    rw [if_neg (by decide), wideB_none]
    have KA : Hid (∀ W, Box W g #[.string s, .int .i64 p, .bool lo] → _) := fun W hW => ahead_no (w := W) hW ok
    clear ok
    have c0 := Q.cell (i := 0) rfl
    go_enter_defers Try.func53, Try.ntmps53
    go_wp2_with fail
    clear hq hr
    generalize (w.alloc (.cells #[.pointer (some ⟨g, 0, none⟩)] 39)).alloc (.cells #[.int .u64 0, .int .u64 0] 28) = W at *
    refine (KA.out _ T.box).mono ?_
    rintro e z ⟨rfl, B1⟩
    replace T := T.next B1
    replace Q := Q.next B1
    replace R := R.next B1
    clear B1 c0
    go_wp2_with fail
    refine leaves_cons (f := 77) (args := #[.pointer (some ⟨q, 0, none⟩)]) (by simp) (by simp [go_sem]) ?_
    refine (catchW_lost (g := g) (s := s) (p := p) (lo := lo) (Q.cell (i := 0) rfl) T.box).mono ?_
    rintro e u' w'' ⟨rfl, rfl, rfl⟩
    have TT : Tk g #[.string s, .int .i64 p, .bool true] w _ := T.set 2 (.bool true)
    obtain ⟨x0, x1⟩ := (R.far (p := ⟨g, 2, none⟩) rg.out (.bool true)).two
    have TH := Lib.hid TT
    clear TT
    generalize World.setCell _ ⟨g, 2, none⟩ (.bool true) = W9 at *
    simp [Leaves, settle, results, Try.results53, go_sem, x0, x1]
    exact TH.out
  | true =>
    obtain ⟨rfl, i, rfl, hi⟩ := okR_yes ok
    rw [if_pos rfl, restB_yes hi]
    have KA : Hid (∀ W, Box W g #[.string s, .int .i64 (i : Int), .bool false] → _) := fun W hW => ahead_yes (w := W) hW hi hs
    obtain ⟨b, hb⟩ : ∃ b, b = s.extract i s.size := ⟨_, rfl⟩
    have bsz : b.size = s.size - i := by rw [hb, ByteArray.size_extract]; omega
    rw [← hb] at KA ⊢
    have KB : Hid (∀ W l, Box W l #[.string b] → _) := fun W l hW => wide1_any (w := W) (g := l) hW (by omega)
    clear ok hb
    cases hn : wideM b.size with
    | none =>
      rw [hn] at KB
      rw [wideB_none]
      clear hn bsz hi hs
      have c0 := Q.cell (i := 0) rfl
      go_enter_defers Try.func53, Try.ntmps53
      go_wp2_with fail
      clear hq hr
      generalize (w.alloc (.cells #[.pointer (some ⟨g, 0, none⟩)] 39)).alloc (.cells #[.int .u64 0, .int .u64 0] 28) = W at *
      refine (KA.out _ T.box).mono ?_
      rintro e z ⟨l, rfl, hl, BX, B1⟩
      have lg : Hid (l ≠ g) := by have := T.box.lt; unfold Hid; omega
      have lw : Hid (w.heap.size ≤ l) := by have := T.size; unfold Hid; omega
      have lq : Hid (l ≠ q) := by have := Q.lt; unfold Hid; omega
      have lr : Hid (l ≠ r) := by have := R.lt; unfold Hid; omega
      replace T := T.next B1
      replace Q := Q.next B1
      replace R := R.next B1
      clear B1 c0 hl
      go_wp2_with fail
      refine (KB.out _ _ BX).mono ?_
      rintro e z2 ⟨rfl, r9, T2⟩
      have T9 : Tk g #[.string s, .int .i64 (i : Int), .bool false] w z2 := T.other T2 lw.out lg.out
      replace Q := Q.tk T2 lq.out.symm
      replace R := R.tk T2 lr.out.symm
      clear T2 BX
      go_wp2_with fail
      refine leaves_cons (f := 77) (args := #[.pointer (some ⟨q, 0, none⟩)]) (by simp) (by simp [go_sem]) ?_
      refine (catchW_lost (g := g) (s := s) (p := (i : Int)) (lo := false) (Q.cell (i := 0) rfl) T9.box).mono ?_
      rintro e u' w'' ⟨rfl, rfl, rfl⟩
      have TT : Tk g #[.string s, .int .i64 (i : Int), .bool true] w _ := T9.set 2 (.bool true)
      obtain ⟨x0, x1⟩ := (R.far (p := ⟨g, 2, none⟩) rg.out (.bool true)).two
      have TH := Lib.hid TT
      clear TT
      generalize World.setCell _ ⟨g, 2, none⟩ (.bool true) = W9 at *
      simp [Leaves, settle, results, Try.results53, go_sem, x0, x1]
      exact TH.out
    | some k =>
      have kl := wideM_le hn
      rw [hn, Option.map_some] at KB
      generalize wideB b (some k) = v at *
      obtain ⟨b2, hb2⟩ : ∃ x, x = b.extract k b.size := ⟨_, rfl⟩
      have b2s : b2.size = b.size - k := by rw [hb2, ByteArray.size_extract]; omega
      have HB2 := Lib.hid hb2
      obtain ⟨j, hj⟩ : ∃ j : Int, j = (i : Int) + (k : Int) := ⟨_, rfl⟩
      have ew : IntKind.i64.wrap ((s.size : Int) - b2.size) = j := by rw [IntKind.wrap_i64]; omega
      have HJ := Lib.hid hj
      clear hn bsz hi hs hb2 b2s kl hj
      have c0 := Q.cell (i := 0) rfl
      go_enter_defers Try.func53, Try.ntmps53
      go_wp2_with fail
      clear hq hr
      generalize (w.alloc (.cells #[.pointer (some ⟨g, 0, none⟩)] 39)).alloc (.cells #[.int .u64 0, .int .u64 0] 28) = W at *
      refine (KA.out _ T.box).mono ?_
      rintro e z ⟨l, rfl, hl, BX, B1⟩
      have lg : Hid (l ≠ g) := by have := T.box.lt; unfold Hid; omega
      have lw : Hid (w.heap.size ≤ l) := by have := T.size; unfold Hid; omega
      have lq : Hid (l ≠ q) := by have := Q.lt; unfold Hid; omega
      have lr : Hid (l ≠ r) := by have := R.lt; unfold Hid; omega
      replace T := T.next B1
      replace Q := Q.next B1
      replace R := R.next B1
      clear B1 c0 hl
      go_wp2_with fail
      refine (KB.out _ _ BX).mono ?_
      rintro e z2 ⟨rfl, T2⟩
      rw [← HB2.out] at T2
      have T9 : Tk g #[.string s, .int .i64 (i : Int), .bool false] w z2 := T.other T2 lw.out lg.out
      replace Q := Q.tk T2 lq.out.symm
      replace R := R.tk T2 lr.out.symm
      have BL := T2.box
      clear T2 BX T
      obtain ⟨x0, x1⟩ := R.two
      have y0 := R.melt 0; have y1 := R.melt 1
      go_wp2_with fail
      clear x0 x1 y0 y1
      replace R : Box _ r #[.int .u64 (v.1 : Int), .int .u64 (v.2 : Int)] := (R.set 0 (.int .u64 (v.1 : Int))).set 1 (.int .u64 (v.2 : Int))
      replace T9 := (T9.far rw_.out rg.out.symm 0 (.int .u64 (v.1 : Int))).far rw_.out rg.out.symm 1 (.int .u64 (v.2 : Int))
      replace Q := (Q.far (p := ⟨r, 0, none⟩) rq.out.symm (.int .u64 (v.1 : Int))).far (p := ⟨r, 1, none⟩) rq.out.symm (.int .u64 (v.2 : Int))
      replace BL := (BL.far (p := ⟨r, 0, none⟩) lr.out (.int .u64 (v.1 : Int))).far (p := ⟨r, 1, none⟩) lr.out (.int .u64 (v.2 : Int))
      generalize (z2.setCell ⟨r, 0, none⟩ (.int .u64 (v.1 : Int))).setCell ⟨r, 1, none⟩ (.int .u64 (v.2 : Int)) = z3 at *
      replace R := R.drew; replace T9 := T9.drew; replace Q := Q.drew; replace BL := BL.drew
      refine wp_region_still_tail 14 (by kernel_rfl) (by kernel_rfl) ?_
      simp only [List.take_succ_cons, List.take_zero, List.drop_succ_cons, List.drop_zero]
      change wpStill _ _ z3.drew _ _ _
      have c0 := Q.cell (i := 0) rfl
      obtain ⟨c1, c2, c3⟩ := T9.box.three
      have c4 := BL.cell (i := 0) rfl
      have m1 := T9.box.melt 1
      refine still_of_quiet ?_
      repeat (go_big_quiet_step (fail))
      refine wpQuiet_nil ?_
      change wpList _ _ _ _ _ z3.drew
      generalize z3.drew = Z at *
      obtain ⟨x0, x1⟩ := (R.far (p := ⟨g, 1, none⟩) rg.out (.int .i64 j)).two
      have y0 := (R.far (p := ⟨g, 1, none⟩) rg.out (.int .i64 j)).melt 0
      have y1 := (R.far (p := ⟨g, 1, none⟩) rg.out (.int .i64 j)).melt 1
      go_wp2_with fail
      clear x0 x1 y0 y1
      have R9 : Box _ r #[.int .u64 (v.1 : Int), .int .u64 (v.2 : Int)] := ((R.far (p := ⟨g, 1, none⟩) rg.out (.int .i64 j)).set 0 (.int .u64 (v.1 : Int))).set 1 (.int .u64 (v.2 : Int))
      have TT : Tk g #[.string s, .int .i64 j, .bool false] w _ := ((T9.set 1 (.int .i64 j)).far rw_.out rg.out.symm 0 (.int .u64 (v.1 : Int))).far rw_.out rg.out.symm 1 (.int .u64 (v.2 : Int))
      generalize ((Z.setCell ⟨g, 1, none⟩ (.int .i64 j)).setCell ⟨r, 0, none⟩ (.int .u64 (v.1 : Int))).setCell ⟨r, 1, none⟩ (.int .u64 (v.2 : Int)) = W9 at *
      refine leaves_cons (f := 77) (args := #[.pointer (some ⟨q, 0, none⟩)]) (by simp) (by simp [go_sem]) ?_
      refine (catchW_idle ⟨q, 0, none⟩ _).mono ?_
      rintro e u' w'' ⟨rfl, rfl, rfl⟩
      obtain ⟨x0, x1⟩ := R9.two
      have TH := Lib.hid TT
      clear TT
      simp [Leaves, settle, results, Try.results53, go_sem, x0, x1]
      have TT := TH.out
      rw [HJ.out] at TT
      exact TT
theorem rWide_any {s : ByteArray} {p : Int} {lo : Bool} {g : Nat} {w : World} (h : Box w g #[.string s, .int .i64 p, .bool lo]) (hs : s.size ≤ 281474976710656) :
    Calls Try.prog 28 #[.pointer (some ⟨g, 0, none⟩)] w fun e w' => e = .returned (w128 (wideB (restB s p lo) (readW s p lo))) ∧ Tk g (rdc s p (readW s p lo)) w w' := by
  have hlt := h.lt
  have T : Tk g #[.string s, .int .i64 p, .bool lo] w (w.alloc (.cells #[.int .u64 0, .int .u64 0] 28)) := (Tk.refl h).alloc _
  have R := Box.new w #[.int .u64 0, .int .u64 0] 28
  obtain ⟨r, hr⟩ : ∃ r, w.heap.size = r := ⟨_, rfl⟩
  rw [hr] at R
  have hne : Hid (g ≠ r) := by unfold Hid; omega
  have hrw : Hid (w.heap.size ≤ r) := by unfold Hid; omega
  have K : Hid (∀ W, Box W g #[.string s, .int .i64 p, .bool lo] → _) := fun W hW => askedW_any (w := W) hW hs
  clear hlt h
  generalize wideB (restB s p lo) (readW s p lo) = v at *
  go_enter Try.func28, Try.ntmps28
  go_wp2_with fail
  clear hr
  generalize w.alloc (.cells #[.int .u64 0, .int .u64 0] 28) = W at *
  refine (K.out _ T.box).mono ?_
  rintro e z ⟨rfl, T1⟩
  replace R := R.tk T1 hne.out.symm
  replace T := T.trans T1
  obtain ⟨d0, d1⟩ := R.two
  have m0 := R.melt 0; have m1 := R.melt 1
  clear T1
  go_wp2_with fail
  clear d0 d1 m0 m1
  replace R : Box _ r #[.int .u64 (v.1 : Int), .int .u64 (v.2 : Int)] := (R.set 0 (.int .u64 (v.1 : Int))).set 1 (.int .u64 (v.2 : Int))
  replace T := (T.far hrw.out hne.out 0 (.int .u64 (v.1 : Int))).far hrw.out hne.out 1 (.int .u64 (v.2 : Int))
  generalize (World.setCell (World.setCell _ ⟨r, 0, none⟩ (.int .u64 (v.1 : Int))) ⟨r, 1, none⟩ (.int .u64 (v.2 : Int))) = W9 at *
  obtain ⟨c0, c1⟩ := R.two
  refine bodyPost_ret (v := .agg #[.int .u64 (v.1 : Int), .int .u64 (v.2 : Int)]) (by simp [results, Try.results28, go_sem, c0, c1]) rfl ?_
  exact ⟨rfl, T⟩
end Go.Proofs.Ytacobmnghdibaaa
namespace Go.Proofs.Ytacobmnghdibaaa
open Go.RowKit
set_option linter.unusedVariables false
set_option linter.unusedSimpArgs false
set_option maxHeartbeats 1000000
set_option maxRecDepth 100000
abbrev ab : ByteArray := ⟨#[97, 98]⟩
/-- The bytes of the fixed answer. -/
abbrev fixedL : List UInt8 := [172, 2, 2, 97, 98, 1, 7, 0, 0, 0]
theorem enc_300 : enc 300 = [172, 2] := by
  rw [enc_high (by decide), enc_low (by decide)]; rfl
theorem enc_2 : enc 2 = [2] := by rw [enc_low (by decide)]; rfl
theorem enc_1 : enc 1 = [1] := by rw [enc_low (by decide)]; rfl
theorem natS_7 : natS [7] = [1, 7, 0, 0, 0] := by
  show enc 1 ++ lbs [7] = _
  rw [enc_1, lbs_cons, lbs_nil]; rfl
theorem nt_7 : Nt [7] := ⟨by decide, fun _ => by simp⟩
theorem lo_7 : Lo [7] := .cons (by decide) .nil
theorem fixed_N : readN (bs fixedL) 0 false 1000 = some (300, 2) := by
  have := readN_back (s := bs fixedL) (i := 0) (n := 300) (most := 1000) (a := []) (b := [2, 97, 98, 1, 7, 0, 0, 0]) (by rw [L_bs, enc_300]; rfl) rfl (by decide) (by decide)
  rw [enc_300] at this
  exact this
theorem fixed_T : readT (bs fixedL) 2 false 5 = some (2, 1) ∧ textB (restB (bs fixedL) 2 false) (readT (bs fixedL) 2 false 5) = ab := by
  have := readT_back (s := bs fixedL) (t := ab) (i := 2) (most := 5) (a := [172, 2]) (b := [1, 7, 0, 0, 0]) (by rw [L_bs, show ab.size = 2 from rfl, enc_2]; rfl) rfl (by decide) (by decide)
  rw [show ab.size = 2 from rfl, enc_2] at this
  have t1 : readT (bs fixedL) 2 false 5 = some (2, 1) := this.1
  exact ⟨t1, by rw [t1]; exact this.2⟩
theorem fixed_A : readA (bs fixedL) 5 false = some ([7], 5) := by
  have := readA_back (s := bs fixedL) (i := 5) (xs := [7]) (a := [172, 2, 2, 97, 98]) (b := []) (by rw [L_bs, natS_7]; rfl) rfl nt_7 lo_7
  rw [natS_7] at this
  exact this
theorem fixed_W : readW (bs fixedL) 10 false = none := by
  refine readW_none fun x => ?_
  have e := restB_yes (s := bs fixedL) (i := 10) (by decide)
  have : (restB (bs fixedL) 10 false).size = 0 := by
    show (restB (bs fixedL) ((10 : Nat) : Int) false).size = 0
    rw [e, ByteArray.size_extract]; rfl
  omega
theorem natT_7 : natT [7] = bs [1, 7, 0, 0, 0] := by rw [natT_yes nt_7, natS_7]
theorem fixed_num {W : World} {g : Nat} (h : Box W g #[.string (bs fixedL), .int .i64 0, .bool false]) : Calls Try.prog 24 #[.pointer (some ⟨g, 0, none⟩), .int .u64 1000] W fun e w' => e = .returned (.int .u64 300) ∧ Tk g #[.string (bs fixedL), .int .i64 2, .bool false] W w' := by
  have := rNumber_any h 1000 (by decide)
  rw [fixed_N] at this
  exact this
theorem fixed_txt {W : World} {g : Nat} (h : Box W g #[.string (bs fixedL), .int .i64 2, .bool false]) : Calls Try.prog 25 #[.pointer (some ⟨g, 0, none⟩), .int .i64 5] W fun e w' => e = .returned (.string ab) ∧ Tk g #[.string (bs fixedL), .int .i64 5, .bool false] W w' := by
  have := rText_any h 5 (by decide) (by decide)
  rw [fixed_T.2, fixed_T.1] at this
  exact this
theorem fixed_nat {W : World} {g : Nat} (h : Box W g #[.string (bs fixedL), .int .i64 5, .bool false]) : Calls Try.prog 26 #[.pointer (some ⟨g, 0, none⟩)] W fun e w' => ∃ A n c, e = .returned (.slice A n c) ∧ Lim w' A n c [7] ∧ (∀ ad, A = some ad → W.heap.size ≤ ad.block) ∧ Tk g #[.string (bs fixedL), .int .i64 10, .bool false] W w' := by
  have := rNat_any h (by decide)
  rw [fixed_A] at this
  exact this
theorem fixed_done {W : World} {g : Nat} (h : Box W g #[.string (bs fixedL), .int .i64 10, .bool false]) : Calls Try.prog 23 #[.pointer (some ⟨g, 0, none⟩)] W fun e w' => e = .returned (.int .i64 0) ∧ Below W.heap.size W w' :=
  done_any h (by decide)
theorem fixed_wide {W : World} {g : Nat} (h : Box W g #[.string (bs fixedL), .int .i64 10, .bool false]) : Calls Try.prog 28 #[.pointer (some ⟨g, 0, none⟩)] W fun e w' => e = .returned (.agg #[.int .u64 0, .int .u64 0]) ∧ Tk g #[.string (bs fixedL), .int .i64 10, .bool true] W w' := by
  have := rWide_any h (by decide)
  rw [fixed_W, wideB_none] at this
  exact this
theorem same_7 {W : World} {A A' : Option Addr} {n c n' c' : Nat} (h : Lim W A n c [7]) (h' : Lim W A' n' c' [7]) : Calls Try.prog 29 #[.slice A n c, .slice A' n' c'] W fun e w' => e = .returned (.bool true) ∧ Below W.heap.size W w' := by
  have := same_bel h h'
  rw [sameB_yes [7]] at this
  exact this
theorem fixed_zero (W : World) : Calls Try.prog 19 #[.agg #[.int .u64 0, .int .u64 0]] W fun e w' => ∃ t : ByteArray, e = .returned (.string t) ∧ t.size = 16 ∧ Below W.heap.size W w' :=
  (wWide_any 0 0 (by decide) (by decide) W).mono fun e w' h => ⟨_, h.1, by rw [bs_size, List.length_append, leb_len], h.2⟩
theorem awake8_any (w : World) : Calls Try.prog 10 #[] w fun e w' => e = .returned (.bool true) ∧ Below w.heap.size w w' := by
  have KN : Hid (∀ W, Calls Try.prog 14 #[.int .u64 300] W fun e w' => e = .returned (.string (bs [172, 2])) ∧ Below W.heap.size W w') := fun W => by rw [← enc_300]; exact wNumber_any 300 (by decide) W
  have KT : Hid (∀ W, Calls Try.prog 16 #[.string ab] W fun e w' => e = .returned (.string (bs [2, 97, 98])) ∧ Below W.heap.size W w') := fun W => by
    have := wText_any ab (by decide) W
    rw [show ab.size = 2 from rfl, enc_2] at this
    exact this
  have KA : Hid (∀ (W : World) (A : Option Addr) (n c : Nat), Lim W A n c [7] → Calls Try.prog 17 #[.slice A n c] W fun e w' => e = .returned (.string (bs [1, 7, 0, 0, 0])) ∧ Below W.heap.size W w') := fun W A n c h => by rw [← natT_7]; exact wNat_any h
  have L7 : Hid (∀ W : World, Lim (W.alloc (.cells #[.int .u32 7] 62)) (some ⟨W.heap.size, 0, none⟩) 1 1 [7]) := fun W => ⟨rfl, by decide, by decide, fun j hj => by
    have : j = 0 := by simpa using hj
    subst this
    exact ⟨⟨W.heap.size, 0, none⟩, rfl, cell_one_new W _ _ 0 _ rfl⟩, lo_7⟩
  have a1 : ∀ W : World, (Op.stringOp .add (bs [172, 2]) (bs [2, 97, 98])).run Try.prog W = .ok (.string (bs [172, 2, 2, 97, 98])) W := fun W => run_string_add_sum W _ _ (by decide)
  have a2 : ∀ W : World, (Op.stringOp .add (bs [172, 2, 2, 97, 98]) (bs [1, 7, 0, 0, 0])).run Try.prog W = .ok (.string (bs fixedL)) W := fun W => run_string_add_sum W _ _ (by decide)
  have s1 : Hid ((bs [172, 2]).size = 2 ∧ (bs [2, 97, 98]).size = 3) := ⟨rfl, rfl⟩
  obtain ⟨t1, h1⟩ : ∃ t, t = bs [172, 2] := ⟨_, rfl⟩
  obtain ⟨t2, h2⟩ : ∃ t, t = bs [2, 97, 98] := ⟨_, rfl⟩
  obtain ⟨t3, h3⟩ : ∃ t, t = bs [1, 7, 0, 0, 0] := ⟨_, rfl⟩
  obtain ⟨t4, h4⟩ : ∃ t, t = bs [172, 2, 2, 97, 98] := ⟨_, rfl⟩
  have z1 : t1.size = 2 := by rw [h1]; rfl
  have z2 : t2.size = 3 := by rw [h2]; rfl
  have z3 : t3.size = 5 := by rw [h3]; rfl
  have z4 : t4.size = 5 := by rw [h4]; rfl
  have q1 : ¬ (9223372036854775807 < t1.size + t2.size) := by omega
  have q2 : ¬ (9223372036854775807 < t4.size + t3.size) := by omega
  have EQ1 : t1.toList = [172, 2] := by rw [h1, ByteArray.toList_eq]
  rw [← h1] at KN a1
  rw [← h2] at KT a1
  rw [← h3] at KA a2
  rw [← h4] at a1 a2
  clear h1 h2 h3 h4 z1 z2 z3 z4 s1
  go_enter Try.func10, Try.ntmps10
  go_wp2_with fail
  refine (KN.out _).mono ?_
  rintro e W1 ⟨rfl, B1⟩
  go_wp2_with fail
  refine (KT.out _).mono ?_
  rintro e W2 ⟨rfl, B2⟩
  replace B1 := below_step B1 B2
  clear B2
  go_wp2_with fail
  refine (KA.out _ _ _ _ (L7.out W2)).mono ?_
  rintro e W3 ⟨rfl, B3⟩
  replace B1 := below_step (below_step B1 (below_one W2 _)) B3
  clear B3
  go_wp2_with fail
  obtain ⟨g, hg⟩ : ∃ g, W3.heap.size = g := ⟨_, rfl⟩
  have BX := Box.new W3 #[.string (bs fixedL), .int .i64 0, .bool false] 41
  rw [hg] at BX
  have M : One w g #[.string (bs fixedL), .int .i64 0, .bool false] (W3.alloc (.cells #[.string (bs fixedL), .int .i64 0, .bool false] 41)) := ⟨BX, by have := B1.size; omega, below_al B1 _⟩
  rw [hg]
  clear BX B1 hg
  generalize W3.alloc (.cells #[.string (bs fixedL), .int .i64 0, .bool false] 41) = W at *
  have K1 : Hid (∀ (W : World) (g : Nat), Box W g _ → _) := fun W g h => fixed_num (W := W) (g := g) h
  have K2 : Hid (∀ (W : World) (g : Nat), Box W g _ → _) := fun W g h => fixed_txt (W := W) (g := g) h
  have K3 : Hid (∀ (W : World) (g : Nat), Box W g _ → _) := fun W g h => fixed_nat (W := W) (g := g) h
  have K4 : Hid (∀ (W : World) (g : Nat), Box W g _ → _) := fun W g h => fixed_done (W := W) (g := g) h
  have K5 : Hid (∀ (W : World) (g : Nat), Box W g _ → _) := fun W g h => fixed_wide (W := W) (g := g) h
  generalize bs fixedL = fs at *
  refine (K1.out _ _ M.bg).mono ?_
  rintro e Z1 ⟨rfl, T⟩
  replace M := M.tk T
  clear T
  go_wp2_with fail
  refine (K2.out _ _ M.bg).mono ?_
  rintro e Z2 ⟨rfl, T⟩
  replace M := M.tk T
  clear T
  go_wp2_with fail
  have gl := M.bg.lt
  refine (K3.out _ _ M.bg).mono ?_
  rintro e Z3 ⟨A, n, c, rfl, LA, FA, T⟩
  have FA2 : Hid (∀ ad, A = some ad → ad.block ≠ g) := fun ad ha => by have := FA ad ha; omega
  replace M := M.tk T
  clear T FA gl
  go_wp2_with fail
  refine (K4.out _ _ M.bg).mono ?_
  rintro e Z4 ⟨rfl, B⟩
  replace M := M.next B
  replace LA := LA.next B
  clear B
  go_wp2_with fail
  refine (K5.out _ _ M.bg).mono ?_
  rintro e Z5 ⟨rfl, T⟩
  replace M := M.tk T
  replace LA := LA.tk T FA2.out
  clear T
  go_wp2_with fail
  obtain ⟨q, hq⟩ : ∃ q, Z5.heap.size = q := ⟨_, rfl⟩
  have Q := Box.new Z5 #[.int .u64 0, .int .u64 0] 28
  rw [hq] at Q ⊢
  replace M : One w g _ _ := ⟨M.bg.alloc (.cells #[.int .u64 0, .int .u64 0] 28), M.hg, below_al M.bl _⟩
  replace LA := LA.alloc (.cells #[.int .u64 0, .int .u64 0] 28)
  clear hq
  generalize Z5.alloc (.cells #[.int .u64 0, .int .u64 0] 28) = X at *
  refine (KN.out _).mono ?_
  rintro e X1 ⟨rfl, B⟩
  replace M := M.next B
  replace LA := LA.next B
  replace Q := Q.next B
  clear B
  go_wp2_with fail
  have L7a := L7.out X1
  have LAa := LA.alloc (.cells #[.int .u32 7] 62)
  refine (same_7 LAa L7a).mono ?_
  rintro e X2 ⟨rfl, B⟩
  replace B := below_step (below_one X1 _) B
  replace M := M.next B
  replace Q := Q.next B
  clear B L7a LAa
  obtain ⟨x0, x1⟩ := Q.two
  obtain ⟨y0, y1, y2⟩ := M.bg.three
  go_wp2_with fail
  refine (done_nil _).mono ?_
  rintro e X3 ⟨rfl, B⟩
  replace M := M.next B
  clear B x0 x1 y0 y1 y2
  go_wp2_with fail
  refine (fixed_zero _).mono ?_
  rintro e X4 ⟨t9, rfl, hz, B⟩
  replace M := M.next B
  have MB := Lib.hid M.bl
  clear B M
  go_wp2_with fail
  go_ret
  exact ⟨rfl, MB.out⟩
end Go.Proofs.Ytacobmnghdibaaa
