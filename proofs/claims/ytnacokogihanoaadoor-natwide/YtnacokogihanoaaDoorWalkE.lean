/- The walks of sum, Add. -/
import Derived.Test.YtnacokogihanoaaDoorWalkD
namespace Go.Proofs.YtnacokogihanoaaDoor
open Go.RowKit

theorem Src.old {w : World} {o : Nat} {zs : List Nat} {A : Option Addr} {n c : Nat} {xs : List Nat} (l : Lim w A n c xs) (ob : Obj) : Src (w.alloc ob) w.heap.size o zs A xs := by
  by_cases hn : 0 < n
  · exact Src.far (l.alloc ob) (fun ad e => l.new_ne ad e hn)
  · intro i h
    have := l.len
    omega
theorem sum_done {w w1 : World} {g n k : Nat} {xs ys : List Nat} (h : Sum w g 0 (List.replicate (n + 1) 0) xs ys n k w1) (hx : xs.length = n) (hy : ys.length ≤ n) :
    ∃ ss, ss.length = n + 1 ∧ val ss = val xs + val ys ∧ Row (w1.setCell ⟨g, n, none⟩ (lv k)) g ss := by
  obtain ⟨ss, hl, lo, hv, r⟩ := h.ss
  rw [List.take_of_length_le (by omega), List.take_of_length_le (by omega)] at hv
  have hk := h.k1
  have e : (List.replicate (n + 1) 0).take 0 ++ ss ++ (List.replicate (n + 1) 0).drop (0 + n) = ss ++ [0] := by simp
  rw [e] at r
  refine ⟨ss ++ [k], by simp [hl], by rw [val_snoc, hl, hv], ?_⟩
  have := r.set_ n k (by omega)
  rwa [List.set_append_right _ _ (by omega), hl, Nat.sub_self, List.set_cons_zero] at this

set_option maxHeartbeats 2000000 in
set_option maxRecDepth 100000 in
theorem sum_any {A A' : Option Addr} {n c n' c' a b : Nat} {w : World} (ha : Lim w A n c (limbs a)) (hb : Lim w A' n' c' (limbs b)) (la : ln a ≤ 64) (lb : ln b ≤ 64) :
    Calls Tryd.prog 67 #[.slice A n c, .slice A' n' c'] w fun e w' => RetN (a + b) w e w' := by
  have hl := ha.len; have hl' := hb.len
  rw [limbs_length] at hl hl'
  by_cases lt : n < n'
  · have il : (n : Int) < n' := by omega
    have hmk : ∀ W : World, (Instr.makeSlice 23 (.int .i64 ((n' : Int) + 1)) (.int .i64 ((n' : Int) + 1))).run Tryd.prog W = .ok (.slice (some ⟨W.heap.size, 0, none⟩) (n' + 1) (n' + 1)) (W.alloc (zrow (n' + 1))) := make_u32 (n' + 1) (by omega)
    have KA := Lib.hid (addInto_any (ns := n' + 1) (cs := n' + 1) (c := c') (c' := c) (Row.zeros w (n' + 1)) (Src.old (o := 0) (zs := List.replicate (n' + 1) 0) hb _) (lo_limbs b) hb.len (ha.alloc _) (by simp) (by omega) (by omega) (by omega) ha.new_ne)
    have hBl : Below w.heap.size w (w.alloc (zrow (n' + 1))) := (Below.refl _ _).alloc (Nat.le_refl _) _
    have HX := Lib.hid hb.len; have HY := Lib.hid ha.len
    have hn : n' ≤ 64 := by omega
    clear ha hb la lb hl hl' lt
    go_enter Tryd.func67, Tryd.ntmps67
    go_wp2_with fail
    generalize w.alloc (zrow (n' + 1)) = wa at *
    generalize hg : w.heap.size = g at *
    refine (KA.out).mono ?_
    rintro e w1 ⟨k, rfl, S⟩
    obtain ⟨ss, sl, sv, R⟩ := sum_done S HX.out (by have := HY.out; have := HX.out; omega)
    obtain ⟨q, hq⟩ : ∃ q, w1.cell? ⟨g, n', none⟩ = some q := by
      obtain ⟨ts, tl, _, _, r⟩ := S.ss
      exact ⟨_, r.cell n' (by simp [tl])⟩
    have hf : w1.frozen? ⟨g, n', none⟩ = false := by
      obtain ⟨ts, tl, _, _, r⟩ := S.ss
      exact r.melt _
    have T := (hBl.trans (S.t.below (Nat.le_refl _)))
    have RL := Lib.hid (R.lim (o := 0) (n := n' + 1) (c := n' + 1) (by omega) (Nat.le_refl _) (by omega))
    have HG := Lib.hid hg
    clear R S KA hBl hg
    go_wp2_with fail
    have TR := trim_any RL.out
    rw [List.drop_zero, List.take_of_length_le (by omega), sv, val_limbs, val_limbs, Nat.add_comm b a] at TR
    refine TR.mono ?_
    rintro e w2 ⟨A2, n2, c2, rfl, L2, rfl⟩
    go_wp2_with fail
    go_ret
    exact ⟨_, _, _, rfl, L2, by rw [HG.out]; exact T.setCell (Nat.le_refl _) _⟩
  · have il : ¬ (n : Int) < n' := by omega
    have hmk : ∀ W : World, (Instr.makeSlice 23 (.int .i64 ((n : Int) + 1)) (.int .i64 ((n : Int) + 1))).run Tryd.prog W = .ok (.slice (some ⟨W.heap.size, 0, none⟩) (n + 1) (n + 1)) (W.alloc (zrow (n + 1))) := make_u32 (n + 1) (by omega)
    have KA := Lib.hid (addInto_any (ns := n + 1) (cs := n + 1) (c := c) (c' := c') (Row.zeros w (n + 1)) (Src.old (o := 0) (zs := List.replicate (n + 1) 0) ha _) (lo_limbs a) ha.len (hb.alloc _) (by simp) (by omega) (by omega) (by omega) hb.new_ne)
    have hBl : Below w.heap.size w (w.alloc (zrow (n + 1))) := (Below.refl _ _).alloc (Nat.le_refl _) _
    have HX := Lib.hid ha.len; have HY := Lib.hid hb.len
    have hn : n ≤ 64 := by omega
    clear ha hb la lb hl hl' lt
    go_enter Tryd.func67, Tryd.ntmps67
    go_wp2_with fail
    generalize w.alloc (zrow (n + 1)) = wa at *
    generalize hg : w.heap.size = g at *
    refine (KA.out).mono ?_
    rintro e w1 ⟨k, rfl, S⟩
    obtain ⟨ss, sl, sv, R⟩ := sum_done S HX.out (by have := HY.out; have := HX.out; omega)
    obtain ⟨q, hq⟩ : ∃ q, w1.cell? ⟨g, n, none⟩ = some q := by
      obtain ⟨ts, tl, _, _, r⟩ := S.ss
      exact ⟨_, r.cell n (by simp [tl])⟩
    have hf : w1.frozen? ⟨g, n, none⟩ = false := by
      obtain ⟨ts, tl, _, _, r⟩ := S.ss
      exact r.melt _
    have T := (hBl.trans (S.t.below (Nat.le_refl _)))
    have RL := Lib.hid (R.lim (o := 0) (n := n + 1) (c := n + 1) (by omega) (Nat.le_refl _) (by omega))
    have HG := Lib.hid hg
    clear R S KA hBl hg
    go_wp2_with fail
    have TR := trim_any RL.out
    rw [List.drop_zero, List.take_of_length_le (by omega), sv, val_limbs, val_limbs] at TR
    refine TR.mono ?_
    rintro e w2 ⟨A2, n2, c2, rfl, L2, rfl⟩
    go_wp2_with fail
    go_ret
    exact ⟨_, _, _, rfl, L2, by rw [HG.out]; exact T.setCell (Nat.le_refl _) _⟩

theorem RetN.lim {r : Nat} {w : World} {e : Ending} {w' : World} (h : RetN r w e w') : ∃ A n c, e = .returned (.slice A n c) ∧ Lim w' A n c (limbs r) ∧ Below w.heap.size w w' := h
set_option maxRecDepth 100000 in
theorem add_any {A A' : Option Addr} {n c n' c' a b : Nat} {w : World} (ha : Lim w A n c (limbs a)) (hb : Lim w A' n' c' (limbs b)) (la : ln a ≤ 64) (lb : ln b ≤ 64) :
    Calls Tryd.prog 25 #[.slice A n c, .slice A' n' c'] w fun e w' => RetE (fitN (a + b)) (fitE (a + b)) w e w' := by
  have RA := Lib.hid (right_yes ha la); have RB := Lib.hid (right_yes hb lb)
  have K := Lib.hid (sum_any ha hb la lb)
  clear ha hb la lb
  go_enter Tryd.func25, Tryd.ntmps25
  go_wp2_with fail
  refine RA.out.mono ?_
  rintro e w' ⟨rfl, rfl⟩
  go_wp2_with fail
  refine RB.out.mono ?_
  rintro e w' ⟨rfl, rfl⟩
  go_wp2_with fail
  refine K.out.mono ?_
  rintro e w1 ⟨A1, n1, c1, rfl, L1, B1⟩
  go_wp2_with fail
  refine (fitting_any L1).mono ?_
  rintro e w2 ⟨A2, n2, c2, rfl, L2, B2⟩
  go_wp2_with fail
  go_ret2
  exact ⟨_, _, _, rfl, L2, below_step B1 B2⟩
/-- Refused: what is no natural. -/
def NoTwo (xs ys : List Nat) : Prop := ¬ (Nt xs ∧ Nt ys)
theorem rights_no {A A' : Option Addr} {n c n' c' : Nat} {xs ys : List Nat} {w : World} (ha : Lim w A n c xs) (hb : Lim w A' n' c' ys) (h : NoTwo xs ys) :
    (∃ _ : Nt xs, (∀ w' : World, w = w' → Calls Tryd.prog 60 #[.slice A n c] w' fun e w'' => e = .returned (.bool true) ∧ w' = w'') ∧ (∀ w' : World, w = w' → Calls Tryd.prog 60 #[.slice A' n' c'] w' fun e w'' => e = .returned (.bool false) ∧ w' = w'')) ∨
    (∀ w' : World, w = w' → Calls Tryd.prog 60 #[.slice A n c] w' fun e w'' => e = .returned (.bool false) ∧ w' = w'') := by
  by_cases ka : Nt xs
  · refine Or.inl ⟨ka, ?_, ?_⟩
    · rintro w' rfl
      exact right_yes (ka.eq ha.lo ▸ ha) (by unfold ln; rw [← ka.eq ha.lo]; exact ka.1)
    · rintro w' rfl
      exact right_no hb (fun x => h ⟨ka, x⟩)
  · refine Or.inr ?_
    rintro w' rfl
    exact right_no ha ka
set_option maxRecDepth 100000 in
theorem add_none {A A' : Option Addr} {n c n' c' : Nat} {xs ys : List Nat} {w : World} (ha : Lim w A n c xs) (hb : Lim w A' n' c' ys) (h : NoTwo xs ys) :
    Calls Tryd.prog 25 #[.slice A n c, .slice A' n' c'] w fun e w' => e = .returned (.tuple #[.slice none 0 0, .int .i64 1]) ∧ w = w' := by
  rcases rights_no ha hb h with ⟨_, RA, RB⟩ | RA
  · have RA := Lib.hid RA; have RB := Lib.hid RB
    clear ha hb h
    go_enter Tryd.func25, Tryd.ntmps25
    go_wp2_with fail
    refine (RA.out _ rfl).mono ?_
    rintro e w' ⟨rfl, rfl⟩
    go_wp2_with fail
    refine (RB.out _ rfl).mono ?_
    rintro e w' ⟨rfl, rfl⟩
    go_wp2_with fail
    go_ret2
    exact ⟨rfl, rfl⟩
  · have RA := Lib.hid RA
    clear ha hb h
    go_enter Tryd.func25, Tryd.ntmps25
    go_wp2_with fail
    refine (RA.out _ rfl).mono ?_
    rintro e w' ⟨rfl, rfl⟩
    go_wp2_with fail
    go_ret2
    exact ⟨rfl, rfl⟩
end Go.Proofs.YtnacokogihanoaaDoor
