/- The document's answers for fractions: Cmp, Text, Do. -/
import Derived.Test.YtnacokogihanoaaDoorRRA
namespace Go.Proofs.YtnacokogihanoaaDoor
open Go.RowKit
set_option linter.unusedVariables false
set_option linter.unusedSimpArgs false

section
variable {W : World} {A A' : Option Addr} {n c n' c' x y : Nat}
theorem lim64 {W : World} {A : Option Addr} {n c x : Nat} (h : Lim W A n c (limbs x)) : n = ln x := by rw [← h.len, limbs_length]
theorem rmul (h1 : Lim W A n c (limbs x)) (h2 : Lim W A' n' c' (limbs y)) (lx : ln x ≤ 64) (ly : ln y ≤ 64) : Calls Tryd.prog 20 #[.slice A n c, .slice A' n' c'] W fun e w' => RetN (x * y) W e w' := by
  have := refMul_any h1 h2 (by rw [lim64 h1]; omega) (by rw [lim64 h2]; omega)
  rwa [val_limbs, val_limbs] at this
theorem radd (h1 : Lim W A n c (limbs x)) (h2 : Lim W A' n' c' (limbs y)) (lx : ln x ≤ 64) (ly : ln y ≤ 64) : Calls Tryd.prog 18 #[.slice A n c, .slice A' n' c'] W fun e w' => RetN (x + y) W e w' := by
  have := refAdd_any h1 h2 (by rw [lim64 h1]; omega) (by rw [lim64 h2]; omega)
  rwa [val_limbs, val_limbs] at this
theorem rsub (h1 : Lim W A n c (limbs x)) (h2 : Lim W A' n' c' (limbs y)) (lx : ln x ≤ 64) (le : y ≤ x) : Calls Tryd.prog 83 #[.slice A n c, .slice A' n' c'] W fun e w' => RetN (x - y) W e w' := by
  have := refSub_any h1 h2 (by rw [lim64 h1]; omega) (by rw [lim64 h1, lim64 h2]; exact ln_mono le) (by rw [val_limbs, val_limbs]; exact le)
  rwa [val_limbs, val_limbs] at this
theorem rcmp (h1 : Lim W A n c (limbs x)) (h2 : Lim W A' n' c' (limbs y)) (lx : ln x ≤ 64) (ly : ln y ≤ 64) : Calls Tryd.prog 82 #[.slice A n c, .slice A' n' c'] W fun e w' => e = .returned (.int .i64 (sgn x y)) ∧ Below W.heap.size W w' :=
  (refCmp_any h1 h2 (by omega) (by omega)).mono fun _ _ ⟨he, m, hm⟩ => ⟨he, by subst hm; exact below_drewN (Below.refl _ _) m⟩
end
set_option maxHeartbeats 4000000 in
set_option maxRecDepth 100000 in
theorem cmp3_yes {A A' D D' : Option Addr} {n c n' c' m k m' k' : Nat} {p q p' q' : Nat} {w : World} (ha : Lim w A n c (limbs p)) (ha' : Lim w A' n' c' (limbs q)) (hb : Lim w D m k (limbs p')) (hb' : Lim w D' m' k' (limbs q')) (f : Fq p q) (g : Fq p' q') (h1 : ln (p * q') ≤ 64) (h2 : ln (p' * q) ≤ 64) : Calls Tryd.prog 44 #[.agg #[.slice A n c, .slice A' n' c'], .agg #[.slice D m k, .slice D' m' k']] w fun e w' => e = .returned (.tuple #[.int .i64 (sgn (p * q') (p' * q)), .int .i64 0]) ∧ Below w.heap.size w w' := by
  have S := (((((Fs.start w).put ha).put ha').put hb).put hb').box (.slice A n c) (.slice A' n' c') |>.box (.slice D m k) (.slice D' m' k')
  simp only [World.size_alloc] at S
  clear ha ha' hb hb'
  go_enter Tryd.func44, Tryd.ntmps44
  go_upto_region 1 with fail
  generalize (w.alloc (.cells #[.slice A n c, .slice A' n' c'] 50)).alloc (.cells #[.slice D m k, .slice D' m' k'] 50) = w0 at *
  have KA : Hid (∀ W, Below w0.heap.size w0 W → Calls Tryd.prog 20 #[.slice A n c, .slice D' m' k'] W fun e w' => RetN (p * q') W e w') := fun W hW => rmul (S.lie.2.2.2.1.next hW) (S.lie.1.next hW) f.lp g.lq
  have KB : Hid (∀ W, Below w0.heap.size w0 W → Calls Tryd.prog 20 #[.slice D m k, .slice A' n' c'] W fun e w' => RetN (p' * q) W e w') := fun W hW => rmul (S.lie.2.1.next hW) (S.lie.2.2.1.next hW) g.lp f.lq
  obtain ⟨⟨b0, b1, -⟩, ⟨a0, a1, -⟩, -⟩ := S.cel
  have CC : Hid (∀ W, Below w0.heap.size w0 W → W.cell? ⟨w.heap.size, 0, none⟩ = some (.slice A n c) ∧ W.cell? ⟨w.heap.size, 1, none⟩ = some (.slice A' n' c') ∧ W.cell? ⟨w.heap.size + 1, 0, none⟩ = some (.slice D m k) ∧ W.cell? ⟨w.heap.size + 1, 1, none⟩ = some (.slice D' m' k')) := fun W h => ⟨keep_cell h a0, keep_cell h a1, keep_cell h b0, keep_cell h b1⟩
  have SS := Lib.hid S
  clear a0 a1 b0 b1 S
  go_region_held3 (fun w' => w'.cell? ⟨w.heap.size, 0, none⟩ = some (.slice A n c) ∧ w'.cell? ⟨w.heap.size, 1, none⟩ = some (.slice A' n' c') ∧ w'.cell? ⟨w.heap.size + 1, 0, none⟩ = some (.slice D m k) ∧ w'.cell? ⟨w.heap.size + 1, 1, none⟩ = some (.slice D' m' k'))
    ((refine CC.out _ ?_; repeat (first | with_reducible exact Below.refl _ _ | with_reducible exact (Below.refl _ _).drew | refine below_step ?_ (by assumption))))
    (first
      | (go_at_call 20; (with_reducible refine (KA.out _ ?_).mono ?_); (· repeat (first | with_reducible exact Below.refl _ _ | with_reducible exact (Below.refl _ _).drew | refine below_step ?_ (by assumption))); rintro e z1 ⟨A1, n1, c1, rfl, L1, B1⟩)
      | (go_at_call 20; (with_reducible refine (KB.out _ ?_).mono ?_); (· repeat (first | with_reducible exact Below.refl _ _ | with_reducible exact (Below.refl _ _).drew | refine below_step ?_ (by assumption))); rintro e z2 ⟨A2, n2, c2, rfl, L2, B2⟩))
  have S := (((SS.out.drew.next B1).put L1).next B2).put L2
  have n1e := Lib.hid (lim64 L1); have n2e := Lib.hid (lim64 L2)
  clear L1 L2 B1 B2 CC SS KA KB
  go_wp2_with fail
  refine (big_no _ _ _ _ _ _ _ _ _ _ ?_ ?_ ?_).mono ?_
  · have q1 := n1e.out; have q2 := n2e.out; (try have q3 := n3e.out); omega
  · have q1 := n1e.out; have q2 := n2e.out; (try have q3 := n3e.out); omega
  · have q1 := n1e.out; have q2 := n2e.out; (try have q3 := n3e.out); omega
  rintro e w' ⟨rfl, rfl⟩
  go_wp2_with fail
  refine (rcmp S.lie.2.1 S.lie.1 h1 h2).mono ?_
  rintro e z3 ⟨rfl, B3⟩
  have S := S.next B3
  clear B3
  go_wp2_with fail
  go_ret2
  exact ⟨rfl, S.bl⟩
set_option maxHeartbeats 4000000 in
set_option maxRecDepth 100000 in
theorem cmp3_big {A A' D D' : Option Addr} {n c n' c' m k m' k' : Nat} {p q p' q' : Nat} {w : World} (ha : Lim w A n c (limbs p)) (ha' : Lim w A' n' c' (limbs q)) (hb : Lim w D m k (limbs p')) (hb' : Lim w D' m' k' (limbs q')) (f : Fq p q) (g : Fq p' q') (h : ¬ (ln (p * q') ≤ 64 ∧ ln (p' * q) ≤ 64)) : Calls Tryd.prog 44 #[.agg #[.slice A n c, .slice A' n' c'], .agg #[.slice D m k, .slice D' m' k']] w fun e w' => e = .returned (.tuple #[.int .i64 0, .int .i64 6]) ∧ Below w.heap.size w w' := by
  have S := (((((Fs.start w).put ha).put ha').put hb).put hb').box (.slice A n c) (.slice A' n' c') |>.box (.slice D m k) (.slice D' m' k')
  simp only [World.size_alloc] at S
  clear ha ha' hb hb'
  go_enter Tryd.func44, Tryd.ntmps44
  go_upto_region 1 with fail
  generalize (w.alloc (.cells #[.slice A n c, .slice A' n' c'] 50)).alloc (.cells #[.slice D m k, .slice D' m' k'] 50) = w0 at *
  have KA : Hid (∀ W, Below w0.heap.size w0 W → Calls Tryd.prog 20 #[.slice A n c, .slice D' m' k'] W fun e w' => RetN (p * q') W e w') := fun W hW => rmul (S.lie.2.2.2.1.next hW) (S.lie.1.next hW) f.lp g.lq
  have KB : Hid (∀ W, Below w0.heap.size w0 W → Calls Tryd.prog 20 #[.slice D m k, .slice A' n' c'] W fun e w' => RetN (p' * q) W e w') := fun W hW => rmul (S.lie.2.1.next hW) (S.lie.2.2.1.next hW) g.lp f.lq
  obtain ⟨⟨b0, b1, -⟩, ⟨a0, a1, -⟩, -⟩ := S.cel
  have CC : Hid (∀ W, Below w0.heap.size w0 W → W.cell? ⟨w.heap.size, 0, none⟩ = some (.slice A n c) ∧ W.cell? ⟨w.heap.size, 1, none⟩ = some (.slice A' n' c') ∧ W.cell? ⟨w.heap.size + 1, 0, none⟩ = some (.slice D m k) ∧ W.cell? ⟨w.heap.size + 1, 1, none⟩ = some (.slice D' m' k')) := fun W h => ⟨keep_cell h a0, keep_cell h a1, keep_cell h b0, keep_cell h b1⟩
  have SS := Lib.hid S
  clear a0 a1 b0 b1 S
  go_region_held3 (fun w' => w'.cell? ⟨w.heap.size, 0, none⟩ = some (.slice A n c) ∧ w'.cell? ⟨w.heap.size, 1, none⟩ = some (.slice A' n' c') ∧ w'.cell? ⟨w.heap.size + 1, 0, none⟩ = some (.slice D m k) ∧ w'.cell? ⟨w.heap.size + 1, 1, none⟩ = some (.slice D' m' k'))
    ((refine CC.out _ ?_; repeat (first | with_reducible exact Below.refl _ _ | with_reducible exact (Below.refl _ _).drew | refine below_step ?_ (by assumption))))
    (first
      | (go_at_call 20; (with_reducible refine (KA.out _ ?_).mono ?_); (· repeat (first | with_reducible exact Below.refl _ _ | with_reducible exact (Below.refl _ _).drew | refine below_step ?_ (by assumption))); rintro e z1 ⟨A1, n1, c1, rfl, L1, B1⟩)
      | (go_at_call 20; (with_reducible refine (KB.out _ ?_).mono ?_); (· repeat (first | with_reducible exact Below.refl _ _ | with_reducible exact (Below.refl _ _).drew | refine below_step ?_ (by assumption))); rintro e z2 ⟨A2, n2, c2, rfl, L2, B2⟩))
  have S := (((SS.out.drew.next B1).put L1).next B2).put L2
  have n1e := Lib.hid (lim64 L1); have n2e := Lib.hid (lim64 L2)
  clear L1 L2 B1 B2 CC SS KA KB
  go_wp2_with fail
  refine (big_yes _ _ _ _ _ _ _ _ _ _ ?_).mono ?_
  · have q1 := n1e.out; have q2 := n2e.out; (try have q3 := n3e.out); omega
  rintro e w' ⟨rfl, rfl⟩
  go_wp2_with fail
  go_ret2
  exact ⟨rfl, S.bl⟩
theorem cmp3_any {A A' D D' : Option Addr} {n c n' c' m k m' k' : Nat} {p q p' q' : Nat} {w : World} (ha : Lim w A n c (limbs p)) (ha' : Lim w A' n' c' (limbs q)) (hb : Lim w D m k (limbs p')) (hb' : Lim w D' m' k' (limbs q')) (f : Fq p q) (g : Fq p' q') : Calls Tryd.prog 44 #[.agg #[.slice A n c, .slice A' n' c'], .agg #[.slice D m k, .slice D' m' k']] w fun e w' => e = .returned (.tuple #[.int .i64 (cmpN p q p' q'), .int .i64 (cmpE p q p' q')]) ∧ Below w.heap.size w w' := by
  unfold cmpN cmpE
  by_cases h : ln (p * q') ≤ 64 ∧ ln (p' * q) ≤ 64
  · rw [if_pos h, if_pos h]; exact cmp3_yes ha ha' hb hb' f g h.1 h.2
  · rw [if_neg h, if_neg h]; exact cmp3_big ha ha' hb hb' f g h
set_option maxHeartbeats 4000000 in
set_option maxRecDepth 100000 in
theorem text3_any {A A' : Option Addr} {n c n' c' p q : Nat} {w : World} (ha : Lim w A n c (limbs p)) (hb : Lim w A' n' c' (limbs q)) (f : Fq p q) : Calls Tryd.prog 45 #[.agg #[.slice A n c, .slice A' n' c']] w fun e w' => e = .returned (.string ⟨(dtext p ++ 47 :: dtext q).toArray⟩) ∧ Below w.heap.size w w' := by
  have S := (((Fs.start w).put ha).put hb).box (.slice A n c) (.slice A' n' c')
  clear ha hb
  go_enter Tryd.func45, Tryd.ntmps45
  go_upto_region 1 with fail
  generalize w.alloc (.cells #[.slice A n c, .slice A' n' c'] 50) = w0 at *
  have LA := S.lie.2.1
  have LB := S.lie.1
  have lp := f.lp; have lq := f.lq
  obtain ⟨P, hP⟩ : ∃ P, dtext p = P := ⟨_, rfl⟩
  obtain ⟨Q, hQ⟩ : ∃ Q, dtext q = Q := ⟨_, rfl⟩
  have sP : P.length ≤ 1000 := by rw [← hP]; exact dtext_len lp
  have sQ : Q.length ≤ 1000 := by rw [← hQ]; exact dtext_len lq
  have t1 : ¬ 9223372036854775807 < P.length + 1 := by omega
  have t2 : ¬ 9223372036854775807 < P.length + 1 + Q.length := by omega
  have TA : ∀ W, Below w0.heap.size w0 W → Calls Tryd.prog 15 #[.slice A n c] W fun e w' => e = .returned (.string ⟨P.toArray⟩) ∧ Below W.heap.size W w' := fun W h => hP ▸ refText_any (LA.next h) lp
  have TB : ∀ W, Below w0.heap.size w0 W → Calls Tryd.prog 15 #[.slice A' n' c'] W fun e w' => e = .returned (.string ⟨Q.toArray⟩) ∧ Below W.heap.size W w' := fun W h => hQ ▸ refText_any (LB.next h) lq
  obtain ⟨⟨c0, c1, -⟩, -⟩ := S.cel
  have TA := Lib.hid TA; have TB := Lib.hid TB
  have SB := Lib.hid S.bl
  have HP := Lib.hid hP; have HQ := Lib.hid hQ
  clear S f LA LB lp lq sP sQ hP hQ
  go_region_held3 (fun w' => w'.cell? ⟨w.heap.size, 0, none⟩ = some (.slice A n c) ∧ w'.cell? ⟨w.heap.size, 1, none⟩ = some (.slice A' n' c'))
    ((refine ⟨?_, ?_⟩ <;> (repeat (first | with_reducible exact c0 | with_reducible exact c1 | with_reducible refine keep_drew ?_ | with_reducible refine keep_cell (by assumption) ?_))))
    (first
      | (go_at_call 15; (first | with_reducible refine (TA.out _ ?_).mono ?_ | with_reducible refine (TB.out _ ?_).mono ?_); (· repeat (first | with_reducible exact Below.refl _ _ | with_reducible exact (Below.refl _ _).drew | refine below_step ?_ (by assumption))); rintro e z ⟨rfl, Bz⟩))
  go_wp2_with fail
  go_ret
  refine ⟨?_, ?_⟩
  · rw [HP.out, HQ.out, ← cat3]; rfl
  · repeat (first | with_reducible exact SB.out.drew | refine below_step ?_ (by assumption))

set_option maxHeartbeats 4000000 in
set_option maxRecDepth 100000 in
theorem do3_yes {A A' D D' : Option Addr} {n c n' c' m k m' k' : Nat} {p q p' q' : Nat} {w : World} (ha : Lim w A n c (limbs p)) (ha' : Lim w A' n' c' (limbs q)) (hb : Lim w D m k (limbs p')) (hb' : Lim w D' m' k' (limbs q')) (f : Fq p q) (g : Fq p' q') (h1 : ln (p * p') ≤ 64) (h2 : ln (q * q') ≤ 64) : Calls Tryd.prog 46 #[.int .i64 3, .agg #[.slice A n c, .slice A' n' c'], .agg #[.slice D m k, .slice D' m' k']] w fun e w' => RetA3 (red (p * p') (q * q')) w e w' := by
  have S := (((((Fs.start w).put ha).put ha').put hb).put hb').box (.slice A n c) (.slice A' n' c') |>.box (.slice D m k) (.slice D' m' k') |>.box (.slice none 0 0) (.slice none 0 0)
  simp only [World.size_alloc] at S
  clear ha ha' hb hb'
  go_enter Tryd.func46, Tryd.ntmps46
  go_upto_region 2 with fail
  generalize ((w.alloc (.cells #[.slice A n c, .slice A' n' c'] 50)).alloc (.cells #[.slice D m k, .slice D' m' k'] 50)).alloc (.cells #[.slice none 0 0, .slice none 0 0] 50) = w0 at *
  have KA : Hid (∀ W, Below w0.heap.size w0 W → Calls Tryd.prog 20 #[.slice A n c, .slice D m k] W fun e w' => RetN (p * p') W e w') := fun W hW => rmul (S.lie.2.2.2.1.next hW) (S.lie.2.1.next hW) f.lp g.lp
  have KB : Hid (∀ W, Below w0.heap.size w0 W → Calls Tryd.prog 20 #[.slice A' n' c', .slice D' m' k'] W fun e w' => RetN (q * q') W e w') := fun W hW => rmul (S.lie.2.2.1.next hW) (S.lie.1.next hW) f.lq g.lq
  obtain ⟨-, ⟨b0, b1, -⟩, ⟨a0, a1, -⟩, -⟩ := S.cel
  have CC : Hid (∀ W, Below w0.heap.size w0 W → W.cell? ⟨w.heap.size, 0, none⟩ = some (.slice A n c) ∧ W.cell? ⟨w.heap.size, 1, none⟩ = some (.slice A' n' c') ∧ W.cell? ⟨w.heap.size + 1, 0, none⟩ = some (.slice D m k) ∧ W.cell? ⟨w.heap.size + 1, 1, none⟩ = some (.slice D' m' k')) := fun W h => ⟨keep_cell h a0, keep_cell h a1, keep_cell h b0, keep_cell h b1⟩
  have SS := Lib.hid S
  clear a0 a1 b0 b1 S
  go_region_held3 (fun w' => w'.cell? ⟨w.heap.size, 0, none⟩ = some (.slice A n c) ∧ w'.cell? ⟨w.heap.size, 1, none⟩ = some (.slice A' n' c') ∧ w'.cell? ⟨w.heap.size + 1, 0, none⟩ = some (.slice D m k) ∧ w'.cell? ⟨w.heap.size + 1, 1, none⟩ = some (.slice D' m' k'))
    ((refine CC.out _ ?_; repeat (first | with_reducible exact Below.refl _ _ | with_reducible exact (Below.refl _ _).drew | refine below_step ?_ (by assumption))))
    (first
      | (go_at_call 20; (with_reducible refine (KA.out _ ?_).mono ?_); (· repeat (first | with_reducible exact Below.refl _ _ | with_reducible exact (Below.refl _ _).drew | refine below_step ?_ (by assumption))); rintro e z1 ⟨A1, n1, c1, rfl, L1, B1⟩)
      | (go_at_call 20; (with_reducible refine (KB.out _ ?_).mono ?_); (· repeat (first | with_reducible exact Below.refl _ _ | with_reducible exact (Below.refl _ _).drew | refine below_step ?_ (by assumption))); rintro e z2 ⟨A2, n2, c2, rfl, L2, B2⟩))
  have S := (((SS.out.drew.next B1).put L1).next B2).put L2
  have n1e := Lib.hid (lim64 L1); have n2e := Lib.hid (lim64 L2)
  clear L1 L2 B1 B2 CC SS KA KB
  go_wp2_with fail
  refine (big_no _ _ _ _ _ _ _ _ _ _ ?_ ?_ ?_).mono ?_
  · have q1 := n1e.out; have q2 := n2e.out; (try have q3 := n3e.out); omega
  · have q1 := n1e.out; have q2 := n2e.out; (try have q3 := n3e.out); omega
  · have q1 := n1e.out; have q2 := n2e.out; (try have q3 := n3e.out); omega
  rintro e w' ⟨rfl, rfl⟩
  go_wp2_with fail
  refine (reduce3_any S.lie.2.1 S.lie.1 h1 h2 (Nat.mul_ne_zero f.q0 g.q0)).mono ?_
  rintro e z9 ⟨A8, n8, c8, A9, n9, c9, rfl, L8, L9, B9⟩
  have S := ((S.next B9).put L8).put L9
  clear L8 L9 B9
  obtain ⟨⟨r0, r1, q0, q1, rz⟩, -⟩ := S.cel
  go_wp2_with fail
  go_light
  exact bodyPost_ret (v := .tuple #[.agg #[.slice A8 n8 c8, .slice A9 n9 c9], .int .i64 0]) (by simp [results, Tryd.results46, go_sem, r0, r1]) rfl ⟨_, _, _, _, _, _, rfl, S.lie.2.1.put2 r0 r1 _ _, S.lie.1.put2 r0 r1 _ _, (S.bl.setCell (by simp only []; omega) _).setCell (by simp only []; omega) _⟩
set_option maxHeartbeats 4000000 in
set_option maxRecDepth 100000 in
theorem do3_big {A A' D D' : Option Addr} {n c n' c' m k m' k' : Nat} {p q p' q' : Nat} {w : World} (ha : Lim w A n c (limbs p)) (ha' : Lim w A' n' c' (limbs q)) (hb : Lim w D m k (limbs p')) (hb' : Lim w D' m' k' (limbs q')) (f : Fq p q) (g : Fq p' q') (h : ¬ (ln (p * p') ≤ 64 ∧ ln (q * q') ≤ 64)) : Calls Tryd.prog 46 #[.int .i64 3, .agg #[.slice A n c, .slice A' n' c'], .agg #[.slice D m k, .slice D' m' k']] w fun e w' => RetA3 (0, 0, 6) w e w' := by
  have S := (((((Fs.start w).put ha).put ha').put hb).put hb').box (.slice A n c) (.slice A' n' c') |>.box (.slice D m k) (.slice D' m' k') |>.box (.slice none 0 0) (.slice none 0 0)
  simp only [World.size_alloc] at S
  clear ha ha' hb hb'
  go_enter Tryd.func46, Tryd.ntmps46
  go_upto_region 2 with fail
  generalize ((w.alloc (.cells #[.slice A n c, .slice A' n' c'] 50)).alloc (.cells #[.slice D m k, .slice D' m' k'] 50)).alloc (.cells #[.slice none 0 0, .slice none 0 0] 50) = w0 at *
  have KA : Hid (∀ W, Below w0.heap.size w0 W → Calls Tryd.prog 20 #[.slice A n c, .slice D m k] W fun e w' => RetN (p * p') W e w') := fun W hW => rmul (S.lie.2.2.2.1.next hW) (S.lie.2.1.next hW) f.lp g.lp
  have KB : Hid (∀ W, Below w0.heap.size w0 W → Calls Tryd.prog 20 #[.slice A' n' c', .slice D' m' k'] W fun e w' => RetN (q * q') W e w') := fun W hW => rmul (S.lie.2.2.1.next hW) (S.lie.1.next hW) f.lq g.lq
  obtain ⟨-, ⟨b0, b1, -⟩, ⟨a0, a1, -⟩, -⟩ := S.cel
  have CC : Hid (∀ W, Below w0.heap.size w0 W → W.cell? ⟨w.heap.size, 0, none⟩ = some (.slice A n c) ∧ W.cell? ⟨w.heap.size, 1, none⟩ = some (.slice A' n' c') ∧ W.cell? ⟨w.heap.size + 1, 0, none⟩ = some (.slice D m k) ∧ W.cell? ⟨w.heap.size + 1, 1, none⟩ = some (.slice D' m' k')) := fun W h => ⟨keep_cell h a0, keep_cell h a1, keep_cell h b0, keep_cell h b1⟩
  have SS := Lib.hid S
  clear a0 a1 b0 b1 S
  go_region_held3 (fun w' => w'.cell? ⟨w.heap.size, 0, none⟩ = some (.slice A n c) ∧ w'.cell? ⟨w.heap.size, 1, none⟩ = some (.slice A' n' c') ∧ w'.cell? ⟨w.heap.size + 1, 0, none⟩ = some (.slice D m k) ∧ w'.cell? ⟨w.heap.size + 1, 1, none⟩ = some (.slice D' m' k'))
    ((refine CC.out _ ?_; repeat (first | with_reducible exact Below.refl _ _ | with_reducible exact (Below.refl _ _).drew | refine below_step ?_ (by assumption))))
    (first
      | (go_at_call 20; (with_reducible refine (KA.out _ ?_).mono ?_); (· repeat (first | with_reducible exact Below.refl _ _ | with_reducible exact (Below.refl _ _).drew | refine below_step ?_ (by assumption))); rintro e z1 ⟨A1, n1, c1, rfl, L1, B1⟩)
      | (go_at_call 20; (with_reducible refine (KB.out _ ?_).mono ?_); (· repeat (first | with_reducible exact Below.refl _ _ | with_reducible exact (Below.refl _ _).drew | refine below_step ?_ (by assumption))); rintro e z2 ⟨A2, n2, c2, rfl, L2, B2⟩))
  have S := (((SS.out.drew.next B1).put L1).next B2).put L2
  have n1e := Lib.hid (lim64 L1); have n2e := Lib.hid (lim64 L2)
  clear L1 L2 B1 B2 CC SS KA KB
  go_wp2_with fail
  refine (big_yes _ _ _ _ _ _ _ _ _ _ ?_).mono ?_
  · have q1 := n1e.out; have q2 := n2e.out; (try have q3 := n3e.out); omega
  rintro e w' ⟨rfl, rfl⟩
  obtain ⟨⟨r0, r1, q0, q1, rz⟩, -⟩ := S.cel
  go_wp2_with fail
  go_light
  exact bodyPost_ret (v := .tuple #[.agg #[.slice none 0 0, .slice none 0 0], .int .i64 6]) (by simp [results, Tryd.results46, go_sem, r0, r1]) rfl ⟨_, _, _, _, _, _, rfl, lim_z _, lim_z _, (S.bl.setCell (by simp only []; omega) _).setCell (by simp only []; omega) _⟩
set_option maxHeartbeats 4000000 in
set_option maxRecDepth 100000 in
theorem do4_yes {A A' D D' : Option Addr} {n c n' c' m k m' k' : Nat} {p q p' q' : Nat} {w : World} (ha : Lim w A n c (limbs p)) (ha' : Lim w A' n' c' (limbs q)) (hb : Lim w D m k (limbs p')) (hb' : Lim w D' m' k' (limbs q')) (f : Fq p q) (g : Fq p' q') (z : p' ≠ 0) (h1 : ln (p * q') ≤ 64) (h2 : ln (p' * q) ≤ 64) : Calls Tryd.prog 46 #[.int .i64 4, .agg #[.slice A n c, .slice A' n' c'], .agg #[.slice D m k, .slice D' m' k']] w fun e w' => RetA3 (red (p * q') (p' * q)) w e w' := by
  have hm := lim64 hb
  have hm0 := ln_pos z
  have i0 : ((m : Int) == 0) = false := by simp; omega
  clear hm hm0
  have S := (((((Fs.start w).put ha).put ha').put hb).put hb').box (.slice A n c) (.slice A' n' c') |>.box (.slice D m k) (.slice D' m' k') |>.box (.slice none 0 0) (.slice none 0 0)
  simp only [World.size_alloc] at S
  clear ha ha' hb hb'
  go_enter Tryd.func46, Tryd.ntmps46
  go_upto_region 6 with fail
  generalize ((w.alloc (.cells #[.slice A n c, .slice A' n' c'] 50)).alloc (.cells #[.slice D m k, .slice D' m' k'] 50)).alloc (.cells #[.slice none 0 0, .slice none 0 0] 50) = w0 at *
  have KA : Hid (∀ W, Below w0.heap.size w0 W → Calls Tryd.prog 20 #[.slice A n c, .slice D' m' k'] W fun e w' => RetN (p * q') W e w') := fun W hW => rmul (S.lie.2.2.2.1.next hW) (S.lie.1.next hW) f.lp g.lq
  have KB : Hid (∀ W, Below w0.heap.size w0 W → Calls Tryd.prog 20 #[.slice D m k, .slice A' n' c'] W fun e w' => RetN (p' * q) W e w') := fun W hW => rmul (S.lie.2.1.next hW) (S.lie.2.2.1.next hW) g.lp f.lq
  obtain ⟨-, ⟨b0, b1, -⟩, ⟨a0, a1, -⟩, -⟩ := S.cel
  have CC : Hid (∀ W, Below w0.heap.size w0 W → W.cell? ⟨w.heap.size, 0, none⟩ = some (.slice A n c) ∧ W.cell? ⟨w.heap.size, 1, none⟩ = some (.slice A' n' c') ∧ W.cell? ⟨w.heap.size + 1, 0, none⟩ = some (.slice D m k) ∧ W.cell? ⟨w.heap.size + 1, 1, none⟩ = some (.slice D' m' k')) := fun W h => ⟨keep_cell h a0, keep_cell h a1, keep_cell h b0, keep_cell h b1⟩
  have SS := Lib.hid S
  clear a0 a1 b0 b1 S
  go_region_held3 (fun w' => w'.cell? ⟨w.heap.size, 0, none⟩ = some (.slice A n c) ∧ w'.cell? ⟨w.heap.size, 1, none⟩ = some (.slice A' n' c') ∧ w'.cell? ⟨w.heap.size + 1, 0, none⟩ = some (.slice D m k) ∧ w'.cell? ⟨w.heap.size + 1, 1, none⟩ = some (.slice D' m' k'))
    ((refine CC.out _ ?_; repeat (first | with_reducible exact Below.refl _ _ | with_reducible exact (Below.refl _ _).drew | refine below_step ?_ (by assumption))))
    (first
      | (go_at_call 20; (with_reducible refine (KA.out _ ?_).mono ?_); (· repeat (first | with_reducible exact Below.refl _ _ | with_reducible exact (Below.refl _ _).drew | refine below_step ?_ (by assumption))); rintro e z1 ⟨A1, n1, c1, rfl, L1, B1⟩)
      | (go_at_call 20; (with_reducible refine (KB.out _ ?_).mono ?_); (· repeat (first | with_reducible exact Below.refl _ _ | with_reducible exact (Below.refl _ _).drew | refine below_step ?_ (by assumption))); rintro e z2 ⟨A2, n2, c2, rfl, L2, B2⟩))
  have S := (((SS.out.drew.next B1).put L1).next B2).put L2
  have n1e := Lib.hid (lim64 L1); have n2e := Lib.hid (lim64 L2)
  clear L1 L2 B1 B2 CC SS KA KB
  obtain ⟨-, ⟨b0, b1, -⟩, ⟨a0, a1, -⟩, -⟩ := S.cel
  go_wp2_with fail
  clear a0 a1 b0 b1
  refine (big_no _ _ _ _ _ _ _ _ _ _ ?_ ?_ ?_).mono ?_
  · have q1 := n1e.out; have q2 := n2e.out; (try have q3 := n3e.out); omega
  · have q1 := n1e.out; have q2 := n2e.out; (try have q3 := n3e.out); omega
  · have q1 := n1e.out; have q2 := n2e.out; (try have q3 := n3e.out); omega
  rintro e w' ⟨rfl, rfl⟩
  go_wp2_with fail
  refine (reduce3_any S.lie.2.1 S.lie.1 h1 h2 (Nat.mul_ne_zero z f.q0)).mono ?_
  rintro e z9 ⟨A8, n8, c8, A9, n9, c9, rfl, L8, L9, B9⟩
  have S := ((S.next B9).put L8).put L9
  clear L8 L9 B9
  obtain ⟨⟨r0, r1, q0, q1, rz⟩, -⟩ := S.cel
  go_wp2_with fail
  go_light
  exact bodyPost_ret (v := .tuple #[.agg #[.slice A8 n8 c8, .slice A9 n9 c9], .int .i64 0]) (by simp [results, Tryd.results46, go_sem, r0, r1]) rfl ⟨_, _, _, _, _, _, rfl, S.lie.2.1.put2 r0 r1 _ _, S.lie.1.put2 r0 r1 _ _, (S.bl.setCell (by simp only []; omega) _).setCell (by simp only []; omega) _⟩
set_option maxHeartbeats 4000000 in
set_option maxRecDepth 100000 in
theorem do4_big {A A' D D' : Option Addr} {n c n' c' m k m' k' : Nat} {p q p' q' : Nat} {w : World} (ha : Lim w A n c (limbs p)) (ha' : Lim w A' n' c' (limbs q)) (hb : Lim w D m k (limbs p')) (hb' : Lim w D' m' k' (limbs q')) (f : Fq p q) (g : Fq p' q') (z : p' ≠ 0) (h : ¬ (ln (p * q') ≤ 64 ∧ ln (p' * q) ≤ 64)) : Calls Tryd.prog 46 #[.int .i64 4, .agg #[.slice A n c, .slice A' n' c'], .agg #[.slice D m k, .slice D' m' k']] w fun e w' => RetA3 (0, 0, 6) w e w' := by
  have hm := lim64 hb
  have hm0 := ln_pos z
  have i0 : ((m : Int) == 0) = false := by simp; omega
  clear hm hm0
  have S := (((((Fs.start w).put ha).put ha').put hb).put hb').box (.slice A n c) (.slice A' n' c') |>.box (.slice D m k) (.slice D' m' k') |>.box (.slice none 0 0) (.slice none 0 0)
  simp only [World.size_alloc] at S
  clear ha ha' hb hb'
  go_enter Tryd.func46, Tryd.ntmps46
  go_upto_region 6 with fail
  generalize ((w.alloc (.cells #[.slice A n c, .slice A' n' c'] 50)).alloc (.cells #[.slice D m k, .slice D' m' k'] 50)).alloc (.cells #[.slice none 0 0, .slice none 0 0] 50) = w0 at *
  have KA : Hid (∀ W, Below w0.heap.size w0 W → Calls Tryd.prog 20 #[.slice A n c, .slice D' m' k'] W fun e w' => RetN (p * q') W e w') := fun W hW => rmul (S.lie.2.2.2.1.next hW) (S.lie.1.next hW) f.lp g.lq
  have KB : Hid (∀ W, Below w0.heap.size w0 W → Calls Tryd.prog 20 #[.slice D m k, .slice A' n' c'] W fun e w' => RetN (p' * q) W e w') := fun W hW => rmul (S.lie.2.1.next hW) (S.lie.2.2.1.next hW) g.lp f.lq
  obtain ⟨-, ⟨b0, b1, -⟩, ⟨a0, a1, -⟩, -⟩ := S.cel
  have CC : Hid (∀ W, Below w0.heap.size w0 W → W.cell? ⟨w.heap.size, 0, none⟩ = some (.slice A n c) ∧ W.cell? ⟨w.heap.size, 1, none⟩ = some (.slice A' n' c') ∧ W.cell? ⟨w.heap.size + 1, 0, none⟩ = some (.slice D m k) ∧ W.cell? ⟨w.heap.size + 1, 1, none⟩ = some (.slice D' m' k')) := fun W h => ⟨keep_cell h a0, keep_cell h a1, keep_cell h b0, keep_cell h b1⟩
  have SS := Lib.hid S
  clear a0 a1 b0 b1 S
  go_region_held3 (fun w' => w'.cell? ⟨w.heap.size, 0, none⟩ = some (.slice A n c) ∧ w'.cell? ⟨w.heap.size, 1, none⟩ = some (.slice A' n' c') ∧ w'.cell? ⟨w.heap.size + 1, 0, none⟩ = some (.slice D m k) ∧ w'.cell? ⟨w.heap.size + 1, 1, none⟩ = some (.slice D' m' k'))
    ((refine CC.out _ ?_; repeat (first | with_reducible exact Below.refl _ _ | with_reducible exact (Below.refl _ _).drew | refine below_step ?_ (by assumption))))
    (first
      | (go_at_call 20; (with_reducible refine (KA.out _ ?_).mono ?_); (· repeat (first | with_reducible exact Below.refl _ _ | with_reducible exact (Below.refl _ _).drew | refine below_step ?_ (by assumption))); rintro e z1 ⟨A1, n1, c1, rfl, L1, B1⟩)
      | (go_at_call 20; (with_reducible refine (KB.out _ ?_).mono ?_); (· repeat (first | with_reducible exact Below.refl _ _ | with_reducible exact (Below.refl _ _).drew | refine below_step ?_ (by assumption))); rintro e z2 ⟨A2, n2, c2, rfl, L2, B2⟩))
  have S := (((SS.out.drew.next B1).put L1).next B2).put L2
  have n1e := Lib.hid (lim64 L1); have n2e := Lib.hid (lim64 L2)
  clear L1 L2 B1 B2 CC SS KA KB
  obtain ⟨-, ⟨b0, b1, -⟩, ⟨a0, a1, -⟩, -⟩ := S.cel
  go_wp2_with fail
  clear a0 a1 b0 b1
  refine (big_yes _ _ _ _ _ _ _ _ _ _ ?_).mono ?_
  · have q1 := n1e.out; have q2 := n2e.out; (try have q3 := n3e.out); omega
  rintro e w' ⟨rfl, rfl⟩
  obtain ⟨⟨r0, r1, q0, q1, rz⟩, -⟩ := S.cel
  go_wp2_with fail
  go_light
  exact bodyPost_ret (v := .tuple #[.agg #[.slice none 0 0, .slice none 0 0], .int .i64 6]) (by simp [results, Tryd.results46, go_sem, r0, r1]) rfl ⟨_, _, _, _, _, _, rfl, lim_z _, lim_z _, (S.bl.setCell (by simp only []; omega) _).setCell (by simp only []; omega) _⟩
set_option maxHeartbeats 4000000 in
set_option maxRecDepth 100000 in
theorem do4_zero {A A' D D' : Option Addr} {n c n' c' m k m' k' : Nat} {p q p' q' : Nat} {w : World} (ha : Lim w A n c (limbs p)) (ha' : Lim w A' n' c' (limbs q)) (hb : Lim w D m k (limbs p')) (hb' : Lim w D' m' k' (limbs q')) (f : Fq p q) (g : Fq p' q') (z : p' = 0) : Calls Tryd.prog 46 #[.int .i64 4, .agg #[.slice A n c, .slice A' n' c'], .agg #[.slice D m k, .slice D' m' k']] w fun e w' => RetA3 (0, 0, 7) w e w' := by
  have hm := lim64 hb
  rw [z, ln_zero] at hm
  have i0 : ((m : Int) == 0) = true := by simp; omega
  clear hm
  have S := (((((Fs.start w).put ha).put ha').put hb).put hb').box (.slice A n c) (.slice A' n' c') |>.box (.slice D m k) (.slice D' m' k') |>.box (.slice none 0 0) (.slice none 0 0)
  simp only [World.size_alloc] at S
  clear ha ha' hb hb'
  go_enter Tryd.func46, Tryd.ntmps46
  go_upto_region 6 with fail
  generalize ((w.alloc (.cells #[.slice A n c, .slice A' n' c'] 50)).alloc (.cells #[.slice D m k, .slice D' m' k'] 50)).alloc (.cells #[.slice none 0 0, .slice none 0 0] 50) = w0 at *
  have KA : Hid (∀ W, Below w0.heap.size w0 W → Calls Tryd.prog 20 #[.slice A n c, .slice D' m' k'] W fun e w' => RetN (p * q') W e w') := fun W hW => rmul (S.lie.2.2.2.1.next hW) (S.lie.1.next hW) f.lp g.lq
  have KB : Hid (∀ W, Below w0.heap.size w0 W → Calls Tryd.prog 20 #[.slice D m k, .slice A' n' c'] W fun e w' => RetN (p' * q) W e w') := fun W hW => rmul (S.lie.2.1.next hW) (S.lie.2.2.1.next hW) g.lp f.lq
  obtain ⟨-, ⟨b0, b1, -⟩, ⟨a0, a1, -⟩, -⟩ := S.cel
  have CC : Hid (∀ W, Below w0.heap.size w0 W → W.cell? ⟨w.heap.size, 0, none⟩ = some (.slice A n c) ∧ W.cell? ⟨w.heap.size, 1, none⟩ = some (.slice A' n' c') ∧ W.cell? ⟨w.heap.size + 1, 0, none⟩ = some (.slice D m k) ∧ W.cell? ⟨w.heap.size + 1, 1, none⟩ = some (.slice D' m' k')) := fun W h => ⟨keep_cell h a0, keep_cell h a1, keep_cell h b0, keep_cell h b1⟩
  have SS := Lib.hid S
  clear a0 a1 b0 b1 S
  go_region_held3 (fun w' => w'.cell? ⟨w.heap.size, 0, none⟩ = some (.slice A n c) ∧ w'.cell? ⟨w.heap.size, 1, none⟩ = some (.slice A' n' c') ∧ w'.cell? ⟨w.heap.size + 1, 0, none⟩ = some (.slice D m k) ∧ w'.cell? ⟨w.heap.size + 1, 1, none⟩ = some (.slice D' m' k'))
    ((refine CC.out _ ?_; repeat (first | with_reducible exact Below.refl _ _ | with_reducible exact (Below.refl _ _).drew | refine below_step ?_ (by assumption))))
    (first
      | (go_at_call 20; (with_reducible refine (KA.out _ ?_).mono ?_); (· repeat (first | with_reducible exact Below.refl _ _ | with_reducible exact (Below.refl _ _).drew | refine below_step ?_ (by assumption))); rintro e z1 ⟨A1, n1, c1, rfl, L1, B1⟩)
      | (go_at_call 20; (with_reducible refine (KB.out _ ?_).mono ?_); (· repeat (first | with_reducible exact Below.refl _ _ | with_reducible exact (Below.refl _ _).drew | refine below_step ?_ (by assumption))); rintro e z2 ⟨A2, n2, c2, rfl, L2, B2⟩))
  have S := (((SS.out.drew.next B1).put L1).next B2).put L2
  have n1e := Lib.hid (lim64 L1); have n2e := Lib.hid (lim64 L2)
  clear L1 L2 B1 B2 CC SS KA KB
  obtain ⟨⟨r0, r1, q0, q1, rz⟩, ⟨b0, b1, -⟩, ⟨a0, a1, -⟩, -⟩ := S.cel
  go_wp2_with fail
  go_light
  exact bodyPost_ret (v := .tuple #[.agg #[.slice none 0 0, .slice none 0 0], .int .i64 7]) (by simp [results, Tryd.results46, go_sem, r0, r1]) rfl ⟨_, _, _, _, _, _, rfl, lim_z _, lim_z _, (S.bl.setCell (by simp only []; omega) _).setCell (by simp only []; omega) _⟩
set_option maxHeartbeats 4000000 in
set_option maxRecDepth 100000 in
theorem do1_big {A A' D D' : Option Addr} {n c n' c' m k m' k' : Nat} {p q p' q' : Nat} {w : World} (ha : Lim w A n c (limbs p)) (ha' : Lim w A' n' c' (limbs q)) (hb : Lim w D m k (limbs p')) (hb' : Lim w D' m' k' (limbs q')) (f : Fq p q) (g : Fq p' q') (h : ¬ (ln (p * q') ≤ 64 ∧ ln (p' * q) ≤ 64 ∧ ln (q * q') ≤ 64)) : Calls Tryd.prog 46 #[.int .i64 1, .agg #[.slice A n c, .slice A' n' c'], .agg #[.slice D m k, .slice D' m' k']] w fun e w' => RetA3 (0, 0, 6) w e w' := by
  have S := (((((Fs.start w).put ha).put ha').put hb).put hb').box (.slice A n c) (.slice A' n' c') |>.box (.slice D m k) (.slice D' m' k') |>.box (.slice none 0 0) (.slice none 0 0)
  simp only [World.size_alloc] at S
  clear ha ha' hb hb'
  go_enter Tryd.func46, Tryd.ntmps46
  go_upto_region 6 with fail
  generalize ((w.alloc (.cells #[.slice A n c, .slice A' n' c'] 50)).alloc (.cells #[.slice D m k, .slice D' m' k'] 50)).alloc (.cells #[.slice none 0 0, .slice none 0 0] 50) = w0 at *
  have KA : Hid (∀ W, Below w0.heap.size w0 W → Calls Tryd.prog 20 #[.slice A n c, .slice D' m' k'] W fun e w' => RetN (p * q') W e w') := fun W hW => rmul (S.lie.2.2.2.1.next hW) (S.lie.1.next hW) f.lp g.lq
  have KB : Hid (∀ W, Below w0.heap.size w0 W → Calls Tryd.prog 20 #[.slice D m k, .slice A' n' c'] W fun e w' => RetN (p' * q) W e w') := fun W hW => rmul (S.lie.2.1.next hW) (S.lie.2.2.1.next hW) g.lp f.lq
  obtain ⟨-, ⟨b0, b1, -⟩, ⟨a0, a1, -⟩, -⟩ := S.cel
  have CC : Hid (∀ W, Below w0.heap.size w0 W → W.cell? ⟨w.heap.size, 0, none⟩ = some (.slice A n c) ∧ W.cell? ⟨w.heap.size, 1, none⟩ = some (.slice A' n' c') ∧ W.cell? ⟨w.heap.size + 1, 0, none⟩ = some (.slice D m k) ∧ W.cell? ⟨w.heap.size + 1, 1, none⟩ = some (.slice D' m' k')) := fun W h => ⟨keep_cell h a0, keep_cell h a1, keep_cell h b0, keep_cell h b1⟩
  have SS := Lib.hid S
  clear a0 a1 b0 b1 S
  go_region_held3 (fun w' => w'.cell? ⟨w.heap.size, 0, none⟩ = some (.slice A n c) ∧ w'.cell? ⟨w.heap.size, 1, none⟩ = some (.slice A' n' c') ∧ w'.cell? ⟨w.heap.size + 1, 0, none⟩ = some (.slice D m k) ∧ w'.cell? ⟨w.heap.size + 1, 1, none⟩ = some (.slice D' m' k'))
    ((refine CC.out _ ?_; repeat (first | with_reducible exact Below.refl _ _ | with_reducible exact (Below.refl _ _).drew | refine below_step ?_ (by assumption))))
    (first
      | (go_at_call 20; (with_reducible refine (KA.out _ ?_).mono ?_); (· repeat (first | with_reducible exact Below.refl _ _ | with_reducible exact (Below.refl _ _).drew | refine below_step ?_ (by assumption))); rintro e z1 ⟨A1, n1, c1, rfl, L1, B1⟩)
      | (go_at_call 20; (with_reducible refine (KB.out _ ?_).mono ?_); (· repeat (first | with_reducible exact Below.refl _ _ | with_reducible exact (Below.refl _ _).drew | refine below_step ?_ (by assumption))); rintro e z2 ⟨A2, n2, c2, rfl, L2, B2⟩))
  have S := (((SS.out.drew.next B1).put L1).next B2).put L2
  have n1e := Lib.hid (lim64 L1); have n2e := Lib.hid (lim64 L2)
  clear L1 L2 B1 B2 CC SS KA KB
  obtain ⟨-, ⟨b0, b1, -⟩, ⟨a0, a1, -⟩, -⟩ := S.cel
  go_wp2_with fail
  clear a0 a1 b0 b1
  refine (rmul S.lie.2.2.2.2.1 S.lie.2.2.1 f.lq g.lq).mono ?_
  rintro e z3 ⟨A3, n3, c3, rfl, L3, B3⟩
  have S := (S.next B3).put L3
  have n3e := Lib.hid (lim64 L3)
  clear L3 B3
  go_wp2_with fail
  refine (big_yes _ _ _ _ _ _ _ _ _ _ ?_).mono ?_
  · have q1 := n1e.out; have q2 := n2e.out; (try have q3 := n3e.out); omega
  rintro e w' ⟨rfl, rfl⟩
  obtain ⟨⟨r0, r1, q0, q1, rz⟩, -⟩ := S.cel
  go_wp2_with fail
  go_light
  exact bodyPost_ret (v := .tuple #[.agg #[.slice none 0 0, .slice none 0 0], .int .i64 6]) (by simp [results, Tryd.results46, go_sem, r0, r1]) rfl ⟨_, _, _, _, _, _, rfl, lim_z _, lim_z _, (S.bl.setCell (by simp only []; omega) _).setCell (by simp only []; omega) _⟩
set_option maxHeartbeats 4000000 in
set_option maxRecDepth 100000 in
theorem do2_big {A A' D D' : Option Addr} {n c n' c' m k m' k' : Nat} {p q p' q' : Nat} {w : World} (ha : Lim w A n c (limbs p)) (ha' : Lim w A' n' c' (limbs q)) (hb : Lim w D m k (limbs p')) (hb' : Lim w D' m' k' (limbs q')) (f : Fq p q) (g : Fq p' q') (h : ¬ (ln (p * q') ≤ 64 ∧ ln (p' * q) ≤ 64 ∧ ln (q * q') ≤ 64)) : Calls Tryd.prog 46 #[.int .i64 2, .agg #[.slice A n c, .slice A' n' c'], .agg #[.slice D m k, .slice D' m' k']] w fun e w' => RetA3 (0, 0, 6) w e w' := by
  have S := (((((Fs.start w).put ha).put ha').put hb).put hb').box (.slice A n c) (.slice A' n' c') |>.box (.slice D m k) (.slice D' m' k') |>.box (.slice none 0 0) (.slice none 0 0)
  simp only [World.size_alloc] at S
  clear ha ha' hb hb'
  go_enter Tryd.func46, Tryd.ntmps46
  go_upto_region 6 with fail
  generalize ((w.alloc (.cells #[.slice A n c, .slice A' n' c'] 50)).alloc (.cells #[.slice D m k, .slice D' m' k'] 50)).alloc (.cells #[.slice none 0 0, .slice none 0 0] 50) = w0 at *
  have KA : Hid (∀ W, Below w0.heap.size w0 W → Calls Tryd.prog 20 #[.slice A n c, .slice D' m' k'] W fun e w' => RetN (p * q') W e w') := fun W hW => rmul (S.lie.2.2.2.1.next hW) (S.lie.1.next hW) f.lp g.lq
  have KB : Hid (∀ W, Below w0.heap.size w0 W → Calls Tryd.prog 20 #[.slice D m k, .slice A' n' c'] W fun e w' => RetN (p' * q) W e w') := fun W hW => rmul (S.lie.2.1.next hW) (S.lie.2.2.1.next hW) g.lp f.lq
  obtain ⟨-, ⟨b0, b1, -⟩, ⟨a0, a1, -⟩, -⟩ := S.cel
  have CC : Hid (∀ W, Below w0.heap.size w0 W → W.cell? ⟨w.heap.size, 0, none⟩ = some (.slice A n c) ∧ W.cell? ⟨w.heap.size, 1, none⟩ = some (.slice A' n' c') ∧ W.cell? ⟨w.heap.size + 1, 0, none⟩ = some (.slice D m k) ∧ W.cell? ⟨w.heap.size + 1, 1, none⟩ = some (.slice D' m' k')) := fun W h => ⟨keep_cell h a0, keep_cell h a1, keep_cell h b0, keep_cell h b1⟩
  have SS := Lib.hid S
  clear a0 a1 b0 b1 S
  go_region_held3 (fun w' => w'.cell? ⟨w.heap.size, 0, none⟩ = some (.slice A n c) ∧ w'.cell? ⟨w.heap.size, 1, none⟩ = some (.slice A' n' c') ∧ w'.cell? ⟨w.heap.size + 1, 0, none⟩ = some (.slice D m k) ∧ w'.cell? ⟨w.heap.size + 1, 1, none⟩ = some (.slice D' m' k'))
    ((refine CC.out _ ?_; repeat (first | with_reducible exact Below.refl _ _ | with_reducible exact (Below.refl _ _).drew | refine below_step ?_ (by assumption))))
    (first
      | (go_at_call 20; (with_reducible refine (KA.out _ ?_).mono ?_); (· repeat (first | with_reducible exact Below.refl _ _ | with_reducible exact (Below.refl _ _).drew | refine below_step ?_ (by assumption))); rintro e z1 ⟨A1, n1, c1, rfl, L1, B1⟩)
      | (go_at_call 20; (with_reducible refine (KB.out _ ?_).mono ?_); (· repeat (first | with_reducible exact Below.refl _ _ | with_reducible exact (Below.refl _ _).drew | refine below_step ?_ (by assumption))); rintro e z2 ⟨A2, n2, c2, rfl, L2, B2⟩))
  have S := (((SS.out.drew.next B1).put L1).next B2).put L2
  have n1e := Lib.hid (lim64 L1); have n2e := Lib.hid (lim64 L2)
  clear L1 L2 B1 B2 CC SS KA KB
  obtain ⟨-, ⟨b0, b1, -⟩, ⟨a0, a1, -⟩, -⟩ := S.cel
  go_wp2_with fail
  clear a0 a1 b0 b1
  refine (rmul S.lie.2.2.2.2.1 S.lie.2.2.1 f.lq g.lq).mono ?_
  rintro e z3 ⟨A3, n3, c3, rfl, L3, B3⟩
  have S := (S.next B3).put L3
  have n3e := Lib.hid (lim64 L3)
  clear L3 B3
  go_wp2_with fail
  refine (big_yes _ _ _ _ _ _ _ _ _ _ ?_).mono ?_
  · have q1 := n1e.out; have q2 := n2e.out; (try have q3 := n3e.out); omega
  rintro e w' ⟨rfl, rfl⟩
  obtain ⟨⟨r0, r1, q0, q1, rz⟩, -⟩ := S.cel
  go_wp2_with fail
  go_light
  exact bodyPost_ret (v := .tuple #[.agg #[.slice none 0 0, .slice none 0 0], .int .i64 6]) (by simp [results, Tryd.results46, go_sem, r0, r1]) rfl ⟨_, _, _, _, _, _, rfl, lim_z _, lim_z _, (S.bl.setCell (by simp only []; omega) _).setCell (by simp only []; omega) _⟩
set_option maxHeartbeats 4000000 in
set_option maxRecDepth 100000 in
theorem do1_sum {A A' D D' : Option Addr} {n c n' c' m k m' k' : Nat} {p q p' q' : Nat} {w : World} (ha : Lim w A n c (limbs p)) (ha' : Lim w A' n' c' (limbs q)) (hb : Lim w D m k (limbs p')) (hb' : Lim w D' m' k' (limbs q')) (f : Fq p q) (g : Fq p' q') (h0 : ln (q * q') ≤ 64) (h1 : ln (p * q') ≤ 64) (h2 : ln (p' * q) ≤ 64) (h3 : ¬ ln (p * q' + p' * q) ≤ 64) : Calls Tryd.prog 46 #[.int .i64 1, .agg #[.slice A n c, .slice A' n' c'], .agg #[.slice D m k, .slice D' m' k']] w fun e w' => RetA3 (0, 0, 6) w e w' := by
  have S := (((((Fs.start w).put ha).put ha').put hb).put hb').box (.slice A n c) (.slice A' n' c') |>.box (.slice D m k) (.slice D' m' k') |>.box (.slice none 0 0) (.slice none 0 0)
  simp only [World.size_alloc] at S
  clear ha ha' hb hb'
  go_enter Tryd.func46, Tryd.ntmps46
  go_upto_region 6 with fail
  generalize ((w.alloc (.cells #[.slice A n c, .slice A' n' c'] 50)).alloc (.cells #[.slice D m k, .slice D' m' k'] 50)).alloc (.cells #[.slice none 0 0, .slice none 0 0] 50) = w0 at *
  have KA : Hid (∀ W, Below w0.heap.size w0 W → Calls Tryd.prog 20 #[.slice A n c, .slice D' m' k'] W fun e w' => RetN (p * q') W e w') := fun W hW => rmul (S.lie.2.2.2.1.next hW) (S.lie.1.next hW) f.lp g.lq
  have KB : Hid (∀ W, Below w0.heap.size w0 W → Calls Tryd.prog 20 #[.slice D m k, .slice A' n' c'] W fun e w' => RetN (p' * q) W e w') := fun W hW => rmul (S.lie.2.1.next hW) (S.lie.2.2.1.next hW) g.lp f.lq
  obtain ⟨-, ⟨b0, b1, -⟩, ⟨a0, a1, -⟩, -⟩ := S.cel
  have CC : Hid (∀ W, Below w0.heap.size w0 W → W.cell? ⟨w.heap.size, 0, none⟩ = some (.slice A n c) ∧ W.cell? ⟨w.heap.size, 1, none⟩ = some (.slice A' n' c') ∧ W.cell? ⟨w.heap.size + 1, 0, none⟩ = some (.slice D m k) ∧ W.cell? ⟨w.heap.size + 1, 1, none⟩ = some (.slice D' m' k')) := fun W h => ⟨keep_cell h a0, keep_cell h a1, keep_cell h b0, keep_cell h b1⟩
  have SS := Lib.hid S
  clear a0 a1 b0 b1 S
  go_region_held3 (fun w' => w'.cell? ⟨w.heap.size, 0, none⟩ = some (.slice A n c) ∧ w'.cell? ⟨w.heap.size, 1, none⟩ = some (.slice A' n' c') ∧ w'.cell? ⟨w.heap.size + 1, 0, none⟩ = some (.slice D m k) ∧ w'.cell? ⟨w.heap.size + 1, 1, none⟩ = some (.slice D' m' k'))
    ((refine CC.out _ ?_; repeat (first | with_reducible exact Below.refl _ _ | with_reducible exact (Below.refl _ _).drew | refine below_step ?_ (by assumption))))
    (first
      | (go_at_call 20; (with_reducible refine (KA.out _ ?_).mono ?_); (· repeat (first | with_reducible exact Below.refl _ _ | with_reducible exact (Below.refl _ _).drew | refine below_step ?_ (by assumption))); rintro e z1 ⟨A1, n1, c1, rfl, L1, B1⟩)
      | (go_at_call 20; (with_reducible refine (KB.out _ ?_).mono ?_); (· repeat (first | with_reducible exact Below.refl _ _ | with_reducible exact (Below.refl _ _).drew | refine below_step ?_ (by assumption))); rintro e z2 ⟨A2, n2, c2, rfl, L2, B2⟩))
  have S := (((SS.out.drew.next B1).put L1).next B2).put L2
  have n1e := Lib.hid (lim64 L1); have n2e := Lib.hid (lim64 L2)
  clear L1 L2 B1 B2 CC SS KA KB
  obtain ⟨-, ⟨b0, b1, -⟩, ⟨a0, a1, -⟩, -⟩ := S.cel
  go_wp2_with fail
  clear a0 a1 b0 b1
  refine (rmul S.lie.2.2.2.2.1 S.lie.2.2.1 f.lq g.lq).mono ?_
  rintro e z3 ⟨A3, n3, c3, rfl, L3, B3⟩
  have S := (S.next B3).put L3
  have n3e := Lib.hid (lim64 L3)
  clear L3 B3
  go_wp2_with fail
  refine (big_no _ _ _ _ _ _ _ _ _ _ ?_ ?_ ?_).mono ?_
  · have q1 := n1e.out; have q2 := n2e.out; (try have q3 := n3e.out); omega
  · have q1 := n1e.out; have q2 := n2e.out; (try have q3 := n3e.out); omega
  · have q1 := n1e.out; have q2 := n2e.out; (try have q3 := n3e.out); omega
  rintro e w' ⟨rfl, rfl⟩
  go_wp2_with fail
  refine (radd S.lie.2.2.1 S.lie.2.1 h1 h2).mono ?_
  rintro e z4 ⟨A4, n4, c4, rfl, L4, B4⟩
  have S := (S.next B4).put L4
  have n4e := Lib.hid (lim64 L4)
  clear L4 B4
  have i4 : (64 : Int) < n4 := by have := n4e.out; omega
  obtain ⟨⟨r0, r1, q0, q1, rz⟩, -⟩ := S.cel
  go_wp2_with fail
  go_light
  exact bodyPost_ret (v := .tuple #[.agg #[.slice none 0 0, .slice none 0 0], .int .i64 6]) (by simp [results, Tryd.results46, go_sem, r0, r1]) rfl ⟨_, _, _, _, _, _, rfl, lim_z _, lim_z _, (S.bl.setCell (by simp only []; omega) _).setCell (by simp only []; omega) _⟩
set_option maxHeartbeats 4000000 in
set_option maxRecDepth 100000 in
theorem do1_yes {A A' D D' : Option Addr} {n c n' c' m k m' k' : Nat} {p q p' q' : Nat} {w : World} (ha : Lim w A n c (limbs p)) (ha' : Lim w A' n' c' (limbs q)) (hb : Lim w D m k (limbs p')) (hb' : Lim w D' m' k' (limbs q')) (f : Fq p q) (g : Fq p' q') (h0 : ln (q * q') ≤ 64) (h1 : ln (p * q') ≤ 64) (h2 : ln (p' * q) ≤ 64) (h3 : ln (p * q' + p' * q) ≤ 64) : Calls Tryd.prog 46 #[.int .i64 1, .agg #[.slice A n c, .slice A' n' c'], .agg #[.slice D m k, .slice D' m' k']] w fun e w' => RetA3 (red (p * q' + p' * q) (q * q')) w e w' := by
  have S := (((((Fs.start w).put ha).put ha').put hb).put hb').box (.slice A n c) (.slice A' n' c') |>.box (.slice D m k) (.slice D' m' k') |>.box (.slice none 0 0) (.slice none 0 0)
  simp only [World.size_alloc] at S
  clear ha ha' hb hb'
  go_enter Tryd.func46, Tryd.ntmps46
  go_upto_region 6 with fail
  generalize ((w.alloc (.cells #[.slice A n c, .slice A' n' c'] 50)).alloc (.cells #[.slice D m k, .slice D' m' k'] 50)).alloc (.cells #[.slice none 0 0, .slice none 0 0] 50) = w0 at *
  have KA : Hid (∀ W, Below w0.heap.size w0 W → Calls Tryd.prog 20 #[.slice A n c, .slice D' m' k'] W fun e w' => RetN (p * q') W e w') := fun W hW => rmul (S.lie.2.2.2.1.next hW) (S.lie.1.next hW) f.lp g.lq
  have KB : Hid (∀ W, Below w0.heap.size w0 W → Calls Tryd.prog 20 #[.slice D m k, .slice A' n' c'] W fun e w' => RetN (p' * q) W e w') := fun W hW => rmul (S.lie.2.1.next hW) (S.lie.2.2.1.next hW) g.lp f.lq
  obtain ⟨-, ⟨b0, b1, -⟩, ⟨a0, a1, -⟩, -⟩ := S.cel
  have CC : Hid (∀ W, Below w0.heap.size w0 W → W.cell? ⟨w.heap.size, 0, none⟩ = some (.slice A n c) ∧ W.cell? ⟨w.heap.size, 1, none⟩ = some (.slice A' n' c') ∧ W.cell? ⟨w.heap.size + 1, 0, none⟩ = some (.slice D m k) ∧ W.cell? ⟨w.heap.size + 1, 1, none⟩ = some (.slice D' m' k')) := fun W h => ⟨keep_cell h a0, keep_cell h a1, keep_cell h b0, keep_cell h b1⟩
  have SS := Lib.hid S
  clear a0 a1 b0 b1 S
  go_region_held3 (fun w' => w'.cell? ⟨w.heap.size, 0, none⟩ = some (.slice A n c) ∧ w'.cell? ⟨w.heap.size, 1, none⟩ = some (.slice A' n' c') ∧ w'.cell? ⟨w.heap.size + 1, 0, none⟩ = some (.slice D m k) ∧ w'.cell? ⟨w.heap.size + 1, 1, none⟩ = some (.slice D' m' k'))
    ((refine CC.out _ ?_; repeat (first | with_reducible exact Below.refl _ _ | with_reducible exact (Below.refl _ _).drew | refine below_step ?_ (by assumption))))
    (first
      | (go_at_call 20; (with_reducible refine (KA.out _ ?_).mono ?_); (· repeat (first | with_reducible exact Below.refl _ _ | with_reducible exact (Below.refl _ _).drew | refine below_step ?_ (by assumption))); rintro e z1 ⟨A1, n1, c1, rfl, L1, B1⟩)
      | (go_at_call 20; (with_reducible refine (KB.out _ ?_).mono ?_); (· repeat (first | with_reducible exact Below.refl _ _ | with_reducible exact (Below.refl _ _).drew | refine below_step ?_ (by assumption))); rintro e z2 ⟨A2, n2, c2, rfl, L2, B2⟩))
  have S := (((SS.out.drew.next B1).put L1).next B2).put L2
  have n1e := Lib.hid (lim64 L1); have n2e := Lib.hid (lim64 L2)
  clear L1 L2 B1 B2 CC SS KA KB
  obtain ⟨-, ⟨b0, b1, -⟩, ⟨a0, a1, -⟩, -⟩ := S.cel
  go_wp2_with fail
  clear a0 a1 b0 b1
  refine (rmul S.lie.2.2.2.2.1 S.lie.2.2.1 f.lq g.lq).mono ?_
  rintro e z3 ⟨A3, n3, c3, rfl, L3, B3⟩
  have S := (S.next B3).put L3
  have n3e := Lib.hid (lim64 L3)
  clear L3 B3
  go_wp2_with fail
  refine (big_no _ _ _ _ _ _ _ _ _ _ ?_ ?_ ?_).mono ?_
  · have q1 := n1e.out; have q2 := n2e.out; (try have q3 := n3e.out); omega
  · have q1 := n1e.out; have q2 := n2e.out; (try have q3 := n3e.out); omega
  · have q1 := n1e.out; have q2 := n2e.out; (try have q3 := n3e.out); omega
  rintro e w' ⟨rfl, rfl⟩
  go_wp2_with fail
  refine (radd S.lie.2.2.1 S.lie.2.1 h1 h2).mono ?_
  rintro e z4 ⟨A4, n4, c4, rfl, L4, B4⟩
  have S := (S.next B4).put L4
  have n4e := Lib.hid (lim64 L4)
  clear L4 B4
  have i4 : ¬ (64 : Int) < n4 := by have := n4e.out; omega
  go_wp2_with fail
  refine (reduce3_any S.lie.1 S.lie.2.1 h3 h0 (Nat.mul_ne_zero f.q0 g.q0)).mono ?_
  rintro e z9 ⟨A8, n8, c8, A9, n9, c9, rfl, L8, L9, B9⟩
  have S := ((S.next B9).put L8).put L9
  clear L8 L9 B9
  obtain ⟨⟨r0, r1, q0, q1, rz⟩, -⟩ := S.cel
  go_wp2_with fail
  go_light
  exact bodyPost_ret (v := .tuple #[.agg #[.slice A8 n8 c8, .slice A9 n9 c9], .int .i64 0]) (by simp [results, Tryd.results46, go_sem, r0, r1]) rfl ⟨_, _, _, _, _, _, rfl, S.lie.2.1.put2 r0 r1 _ _, S.lie.1.put2 r0 r1 _ _, (S.bl.setCell (by simp only []; omega) _).setCell (by simp only []; omega) _⟩
set_option maxHeartbeats 4000000 in
set_option maxRecDepth 100000 in
theorem do2_low {A A' D D' : Option Addr} {n c n' c' m k m' k' : Nat} {p q p' q' : Nat} {w : World} (ha : Lim w A n c (limbs p)) (ha' : Lim w A' n' c' (limbs q)) (hb : Lim w D m k (limbs p')) (hb' : Lim w D' m' k' (limbs q')) (f : Fq p q) (g : Fq p' q') (h0 : ln (q * q') ≤ 64) (h1 : ln (p * q') ≤ 64) (h2 : ln (p' * q) ≤ 64) (h3 : p * q' < p' * q) : Calls Tryd.prog 46 #[.int .i64 2, .agg #[.slice A n c, .slice A' n' c'], .agg #[.slice D m k, .slice D' m' k']] w fun e w' => RetA3 (0, 0, 1) w e w' := by
  have S := (((((Fs.start w).put ha).put ha').put hb).put hb').box (.slice A n c) (.slice A' n' c') |>.box (.slice D m k) (.slice D' m' k') |>.box (.slice none 0 0) (.slice none 0 0)
  simp only [World.size_alloc] at S
  clear ha ha' hb hb'
  go_enter Tryd.func46, Tryd.ntmps46
  go_upto_region 6 with fail
  generalize ((w.alloc (.cells #[.slice A n c, .slice A' n' c'] 50)).alloc (.cells #[.slice D m k, .slice D' m' k'] 50)).alloc (.cells #[.slice none 0 0, .slice none 0 0] 50) = w0 at *
  have KA : Hid (∀ W, Below w0.heap.size w0 W → Calls Tryd.prog 20 #[.slice A n c, .slice D' m' k'] W fun e w' => RetN (p * q') W e w') := fun W hW => rmul (S.lie.2.2.2.1.next hW) (S.lie.1.next hW) f.lp g.lq
  have KB : Hid (∀ W, Below w0.heap.size w0 W → Calls Tryd.prog 20 #[.slice D m k, .slice A' n' c'] W fun e w' => RetN (p' * q) W e w') := fun W hW => rmul (S.lie.2.1.next hW) (S.lie.2.2.1.next hW) g.lp f.lq
  obtain ⟨-, ⟨b0, b1, -⟩, ⟨a0, a1, -⟩, -⟩ := S.cel
  have CC : Hid (∀ W, Below w0.heap.size w0 W → W.cell? ⟨w.heap.size, 0, none⟩ = some (.slice A n c) ∧ W.cell? ⟨w.heap.size, 1, none⟩ = some (.slice A' n' c') ∧ W.cell? ⟨w.heap.size + 1, 0, none⟩ = some (.slice D m k) ∧ W.cell? ⟨w.heap.size + 1, 1, none⟩ = some (.slice D' m' k')) := fun W h => ⟨keep_cell h a0, keep_cell h a1, keep_cell h b0, keep_cell h b1⟩
  have SS := Lib.hid S
  clear a0 a1 b0 b1 S
  go_region_held3 (fun w' => w'.cell? ⟨w.heap.size, 0, none⟩ = some (.slice A n c) ∧ w'.cell? ⟨w.heap.size, 1, none⟩ = some (.slice A' n' c') ∧ w'.cell? ⟨w.heap.size + 1, 0, none⟩ = some (.slice D m k) ∧ w'.cell? ⟨w.heap.size + 1, 1, none⟩ = some (.slice D' m' k'))
    ((refine CC.out _ ?_; repeat (first | with_reducible exact Below.refl _ _ | with_reducible exact (Below.refl _ _).drew | refine below_step ?_ (by assumption))))
    (first
      | (go_at_call 20; (with_reducible refine (KA.out _ ?_).mono ?_); (· repeat (first | with_reducible exact Below.refl _ _ | with_reducible exact (Below.refl _ _).drew | refine below_step ?_ (by assumption))); rintro e z1 ⟨A1, n1, c1, rfl, L1, B1⟩)
      | (go_at_call 20; (with_reducible refine (KB.out _ ?_).mono ?_); (· repeat (first | with_reducible exact Below.refl _ _ | with_reducible exact (Below.refl _ _).drew | refine below_step ?_ (by assumption))); rintro e z2 ⟨A2, n2, c2, rfl, L2, B2⟩))
  have S := (((SS.out.drew.next B1).put L1).next B2).put L2
  have n1e := Lib.hid (lim64 L1); have n2e := Lib.hid (lim64 L2)
  clear L1 L2 B1 B2 CC SS KA KB
  obtain ⟨-, ⟨b0, b1, -⟩, ⟨a0, a1, -⟩, -⟩ := S.cel
  go_wp2_with fail
  clear a0 a1 b0 b1
  refine (rmul S.lie.2.2.2.2.1 S.lie.2.2.1 f.lq g.lq).mono ?_
  rintro e z3 ⟨A3, n3, c3, rfl, L3, B3⟩
  have S := (S.next B3).put L3
  have n3e := Lib.hid (lim64 L3)
  clear L3 B3
  go_wp2_with fail
  refine (big_no _ _ _ _ _ _ _ _ _ _ ?_ ?_ ?_).mono ?_
  · have q1 := n1e.out; have q2 := n2e.out; (try have q3 := n3e.out); omega
  · have q1 := n1e.out; have q2 := n2e.out; (try have q3 := n3e.out); omega
  · have q1 := n1e.out; have q2 := n2e.out; (try have q3 := n3e.out); omega
  rintro e w' ⟨rfl, rfl⟩
  go_wp2_with fail
  have K := rcmp S.lie.2.2.1 S.lie.2.1 h1 h2
  refine K.mono ?_
  clear K
  rintro e z4 ⟨rfl, B4⟩
  have S := S.next B4
  clear B4
  have i4 : sgn (p * q') (p' * q) < 0 := by rw [sgn_lt h3]; decide
  obtain ⟨⟨r0, r1, q0, q1, rz⟩, -⟩ := S.cel
  go_wp2_with fail
  go_light
  exact bodyPost_ret (v := .tuple #[.agg #[.slice none 0 0, .slice none 0 0], .int .i64 1]) (by simp [results, Tryd.results46, go_sem, r0, r1]) rfl ⟨_, _, _, _, _, _, rfl, lim_z _, lim_z _, (S.bl.setCell (by simp only []; omega) _).setCell (by simp only []; omega) _⟩
set_option maxHeartbeats 4000000 in
set_option maxRecDepth 100000 in
theorem do2_yes {A A' D D' : Option Addr} {n c n' c' m k m' k' : Nat} {p q p' q' : Nat} {w : World} (ha : Lim w A n c (limbs p)) (ha' : Lim w A' n' c' (limbs q)) (hb : Lim w D m k (limbs p')) (hb' : Lim w D' m' k' (limbs q')) (f : Fq p q) (g : Fq p' q') (h0 : ln (q * q') ≤ 64) (h1 : ln (p * q') ≤ 64) (h2 : ln (p' * q) ≤ 64) (h3 : p' * q ≤ p * q') : Calls Tryd.prog 46 #[.int .i64 2, .agg #[.slice A n c, .slice A' n' c'], .agg #[.slice D m k, .slice D' m' k']] w fun e w' => RetA3 (red (p * q' - p' * q) (q * q')) w e w' := by
  have S := (((((Fs.start w).put ha).put ha').put hb).put hb').box (.slice A n c) (.slice A' n' c') |>.box (.slice D m k) (.slice D' m' k') |>.box (.slice none 0 0) (.slice none 0 0)
  simp only [World.size_alloc] at S
  clear ha ha' hb hb'
  go_enter Tryd.func46, Tryd.ntmps46
  go_upto_region 6 with fail
  generalize ((w.alloc (.cells #[.slice A n c, .slice A' n' c'] 50)).alloc (.cells #[.slice D m k, .slice D' m' k'] 50)).alloc (.cells #[.slice none 0 0, .slice none 0 0] 50) = w0 at *
  have KA : Hid (∀ W, Below w0.heap.size w0 W → Calls Tryd.prog 20 #[.slice A n c, .slice D' m' k'] W fun e w' => RetN (p * q') W e w') := fun W hW => rmul (S.lie.2.2.2.1.next hW) (S.lie.1.next hW) f.lp g.lq
  have KB : Hid (∀ W, Below w0.heap.size w0 W → Calls Tryd.prog 20 #[.slice D m k, .slice A' n' c'] W fun e w' => RetN (p' * q) W e w') := fun W hW => rmul (S.lie.2.1.next hW) (S.lie.2.2.1.next hW) g.lp f.lq
  obtain ⟨-, ⟨b0, b1, -⟩, ⟨a0, a1, -⟩, -⟩ := S.cel
  have CC : Hid (∀ W, Below w0.heap.size w0 W → W.cell? ⟨w.heap.size, 0, none⟩ = some (.slice A n c) ∧ W.cell? ⟨w.heap.size, 1, none⟩ = some (.slice A' n' c') ∧ W.cell? ⟨w.heap.size + 1, 0, none⟩ = some (.slice D m k) ∧ W.cell? ⟨w.heap.size + 1, 1, none⟩ = some (.slice D' m' k')) := fun W h => ⟨keep_cell h a0, keep_cell h a1, keep_cell h b0, keep_cell h b1⟩
  have SS := Lib.hid S
  clear a0 a1 b0 b1 S
  go_region_held3 (fun w' => w'.cell? ⟨w.heap.size, 0, none⟩ = some (.slice A n c) ∧ w'.cell? ⟨w.heap.size, 1, none⟩ = some (.slice A' n' c') ∧ w'.cell? ⟨w.heap.size + 1, 0, none⟩ = some (.slice D m k) ∧ w'.cell? ⟨w.heap.size + 1, 1, none⟩ = some (.slice D' m' k'))
    ((refine CC.out _ ?_; repeat (first | with_reducible exact Below.refl _ _ | with_reducible exact (Below.refl _ _).drew | refine below_step ?_ (by assumption))))
    (first
      | (go_at_call 20; (with_reducible refine (KA.out _ ?_).mono ?_); (· repeat (first | with_reducible exact Below.refl _ _ | with_reducible exact (Below.refl _ _).drew | refine below_step ?_ (by assumption))); rintro e z1 ⟨A1, n1, c1, rfl, L1, B1⟩)
      | (go_at_call 20; (with_reducible refine (KB.out _ ?_).mono ?_); (· repeat (first | with_reducible exact Below.refl _ _ | with_reducible exact (Below.refl _ _).drew | refine below_step ?_ (by assumption))); rintro e z2 ⟨A2, n2, c2, rfl, L2, B2⟩))
  have S := (((SS.out.drew.next B1).put L1).next B2).put L2
  have n1e := Lib.hid (lim64 L1); have n2e := Lib.hid (lim64 L2)
  clear L1 L2 B1 B2 CC SS KA KB
  obtain ⟨-, ⟨b0, b1, -⟩, ⟨a0, a1, -⟩, -⟩ := S.cel
  go_wp2_with fail
  clear a0 a1 b0 b1
  refine (rmul S.lie.2.2.2.2.1 S.lie.2.2.1 f.lq g.lq).mono ?_
  rintro e z3 ⟨A3, n3, c3, rfl, L3, B3⟩
  have S := (S.next B3).put L3
  have n3e := Lib.hid (lim64 L3)
  clear L3 B3
  go_wp2_with fail
  refine (big_no _ _ _ _ _ _ _ _ _ _ ?_ ?_ ?_).mono ?_
  · have q1 := n1e.out; have q2 := n2e.out; (try have q3 := n3e.out); omega
  · have q1 := n1e.out; have q2 := n2e.out; (try have q3 := n3e.out); omega
  · have q1 := n1e.out; have q2 := n2e.out; (try have q3 := n3e.out); omega
  rintro e w' ⟨rfl, rfl⟩
  go_wp2_with fail
  have K := rcmp S.lie.2.2.1 S.lie.2.1 h1 h2
  refine K.mono ?_
  clear K
  rintro e z4 ⟨rfl, B4⟩
  have S := S.next B4
  clear B4
  have i4 : ¬ sgn (p * q') (p' * q) < 0 := by have := sgn_nonneg h3; omega
  go_wp2_with fail
  refine (rsub S.lie.2.2.1 S.lie.2.1 h1 h3).mono ?_
  rintro e z5 ⟨A5, n5, c5, rfl, L5, B5⟩
  have S := (S.next B5).put L5
  clear L5 B5
  go_wp2_with fail
  refine (reduce3_any S.lie.1 S.lie.2.1 (Nat.le_trans (ln_mono (Nat.sub_le _ _)) h1) h0 (Nat.mul_ne_zero f.q0 g.q0)).mono ?_
  rintro e z9 ⟨A8, n8, c8, A9, n9, c9, rfl, L8, L9, B9⟩
  have S := ((S.next B9).put L8).put L9
  clear L8 L9 B9
  obtain ⟨⟨r0, r1, q0, q1, rz⟩, -⟩ := S.cel
  go_wp2_with fail
  go_light
  exact bodyPost_ret (v := .tuple #[.agg #[.slice A8 n8 c8, .slice A9 n9 c9], .int .i64 0]) (by simp [results, Tryd.results46, go_sem, r0, r1]) rfl ⟨_, _, _, _, _, _, rfl, S.lie.2.1.put2 r0 r1 _ _, S.lie.1.put2 r0 r1 _ _, (S.bl.setCell (by simp only []; omega) _).setCell (by simp only []; omega) _⟩
theorem do1_any {A A' D D' : Option Addr} {n c n' c' m k m' k' : Nat} {p q p' q' : Nat} {w : World} (ha : Lim w A n c (limbs p)) (ha' : Lim w A' n' c' (limbs q)) (hb : Lim w D m k (limbs p')) (hb' : Lim w D' m' k' (limbs q')) (f : Fq p q) (g : Fq p' q') : Calls Tryd.prog 46 #[.int .i64 1, .agg #[.slice A n c, .slice A' n' c'], .agg #[.slice D m k, .slice D' m' k']] w fun e w' => RetA3 (addR p q p' q') w e w' := by
  unfold addR
  by_cases h : ln (p * q') ≤ 64 ∧ ln (p' * q) ≤ 64 ∧ ln (q * q') ≤ 64
  · by_cases h3 : ln (p * q' + p' * q) ≤ 64
    · rw [if_pos ⟨h.2.2, h.1, h.2.1, h3⟩]; exact do1_yes ha ha' hb hb' f g h.2.2 h.1 h.2.1 h3
    · rw [if_neg fun z => h3 z.2.2.2]; exact do1_sum ha ha' hb hb' f g h.2.2 h.1 h.2.1 h3
  · rw [if_neg fun z => h ⟨z.2.1, z.2.2.1, z.1⟩]; exact do1_big ha ha' hb hb' f g h
theorem do2_any {A A' D D' : Option Addr} {n c n' c' m k m' k' : Nat} {p q p' q' : Nat} {w : World} (ha : Lim w A n c (limbs p)) (ha' : Lim w A' n' c' (limbs q)) (hb : Lim w D m k (limbs p')) (hb' : Lim w D' m' k' (limbs q')) (f : Fq p q) (g : Fq p' q') : Calls Tryd.prog 46 #[.int .i64 2, .agg #[.slice A n c, .slice A' n' c'], .agg #[.slice D m k, .slice D' m' k']] w fun e w' => RetA3 (subR p q p' q') w e w' := by
  unfold subR
  by_cases h : ln (p * q') ≤ 64 ∧ ln (p' * q) ≤ 64 ∧ ln (q * q') ≤ 64
  · rw [if_pos ⟨h.2.2, h.1, h.2.1⟩]
    by_cases h3 : p' * q ≤ p * q'
    · rw [if_pos h3]; exact do2_yes ha ha' hb hb' f g h.2.2 h.1 h.2.1 h3
    · rw [if_neg h3]; exact do2_low ha ha' hb hb' f g h.2.2 h.1 h.2.1 (by omega)
  · rw [if_neg fun z => h ⟨z.2.1, z.2.2, z.1⟩]; exact do2_big ha ha' hb hb' f g h
theorem do3_any {A A' D D' : Option Addr} {n c n' c' m k m' k' : Nat} {p q p' q' : Nat} {w : World} (ha : Lim w A n c (limbs p)) (ha' : Lim w A' n' c' (limbs q)) (hb : Lim w D m k (limbs p')) (hb' : Lim w D' m' k' (limbs q')) (f : Fq p q) (g : Fq p' q') : Calls Tryd.prog 46 #[.int .i64 3, .agg #[.slice A n c, .slice A' n' c'], .agg #[.slice D m k, .slice D' m' k']] w fun e w' => RetA3 (mulR p q p' q') w e w' := by
  unfold mulR
  by_cases h : ln (p * p') ≤ 64 ∧ ln (q * q') ≤ 64
  · rw [if_pos h]; exact do3_yes ha ha' hb hb' f g h.1 h.2
  · rw [if_neg h]; exact do3_big ha ha' hb hb' f g h
theorem do4_any {A A' D D' : Option Addr} {n c n' c' m k m' k' : Nat} {p q p' q' : Nat} {w : World} (ha : Lim w A n c (limbs p)) (ha' : Lim w A' n' c' (limbs q)) (hb : Lim w D m k (limbs p')) (hb' : Lim w D' m' k' (limbs q')) (f : Fq p q) (g : Fq p' q') : Calls Tryd.prog 46 #[.int .i64 4, .agg #[.slice A n c, .slice A' n' c'], .agg #[.slice D m k, .slice D' m' k']] w fun e w' => RetA3 (divR p q p' q') w e w' := by
  unfold divR
  by_cases z : p' = 0
  · rw [if_pos z]; exact do4_zero ha ha' hb hb' f g z
  · rw [if_neg z]
    by_cases h : ln (p * q') ≤ 64 ∧ ln (p' * q) ≤ 64
    · rw [if_pos h]; exact do4_yes ha ha' hb hb' f g z h.1 h.2
    · rw [if_neg h]; exact do4_big ha ha' hb hb' f g z h
end Go.Proofs.YtnacokogihanoaaDoor
