/- For any sum, any text and any two times four bytes the law CrcLast answers true: texts that are the same but for their last four bytes have unlike sums. No condition. -/
import Derived.Test.YtkghlijmlifmjaaCO
import Derived.Test.YtkghlijmlifmjaaCP
import Derived.Test.YtkghlijmlifmjaaCQ
import Derived.Test.YtkghlijmlifmjaaSMB
namespace Go.Proofs.Ytkghlijmlifmjaa.crcLast
open Go.ChangeShapes Go.WideShapes Go.ChangeAt Go.RowKit
open Go.Proofs.Ytkghlijmlifmjaa
set_option linter.unusedVariables false
set_option linter.unusedSimpArgs false

theorem byt4 {W : World} {g : Nat} {a b c d : UInt8} (h0 : W.cell? ⟨g, 0, none⟩ = some (.int .u8 (a.toNat : Int))) (h1 : W.cell? ⟨g, 1, none⟩ = some (.int .u8 (b.toNat : Int))) (h2 : W.cell? ⟨g, 2, none⟩ = some (.int .u8 (c.toNat : Int))) (h3 : W.cell? ⟨g, 3, none⟩ = some (.int .u8 (d.toNat : Int))) : Byt W g [a, b, c, d] := fun j hj => by
  match j, hj with
  | 0, _ => exact h0
  | 1, _ => exact h1
  | 2, _ => exact h2
  | 3, _ => exact h3
theorem conv4 {W : World} {g : Nat} {a b c d : UInt8} (h : Byt W g [a, b, c, d]) : (convert 32 9 (.slice (some ⟨g, 0, none⟩) 4 4)).run Try.prog W = .ok (.string (bs [a, b, c, d])) W := conv_of rfl h
theorem same4 (a0 a1 a2 a3 b0 b1 b2 b3 : UInt8) : (((a0.toNat : Int) == (b0.toNat : Int)) && (((a1.toNat : Int) == (b1.toNat : Int)) && (((a2.toNat : Int) == (b2.toNat : Int)) && ((a3.toNat : Int) == (b3.toNat : Int))))) = decide ([a0, a1, a2, a3] = [b0, b1, b2, b3]) := by
  have h : ∀ a b : UInt8, ((a.toNat : Int) == (b.toNat : Int)) = decide (a = b) := fun a b => by
    by_cases e : a = b
    · subst e; simp
    · have : ¬ (a.toNat : Int) = (b.toNat : Int) := fun h => e (UInt8.toNat_inj.1 (by omega))
      rw [decide_eq_false e]; simpa using this
  rw [h, h, h, h]
  simp [Bool.decide_and]
set_option maxHeartbeats 4000000 in
set_option maxRecDepth 100000 in
theorem walk (x : BitVec 32) (s : ByteArray) (a0 a1 a2 a3 b0 b1 b2 b3 : UInt8) (hs : s.size ≤ maxLen) (w : World) : Calls Try.prog 6 #[.int .u32 (J x), .string s, b4 a0 a1 a2 a3, b4 b0 b1 b2 b3] w fun e w' => e = .returned (.bool true) ∧ Below w.heap.size w w' := by
  unfold maxLen at hs
  by_cases big : 300 < s.size
  · have b1' : (300 : Int) < s.size := by omega
    clear hs
    go_enter Try.func6, Try.ntmps6
    go_wp2_with fail
    refine (awake_any _).mono ?_
    rintro e y ⟨rfl, hy⟩
    go_wp2_with fail
    go_ret
    exact ⟨rfl, below_step (below_al ((Below.refl _ _).alloc (Nat.le_refl _) _) _) hy⟩
  have b1' : ¬ (300 : Int) < s.size := by omega
  have z4 : (bs [a0, a1, a2, a3]).size = 4 := rfl
  have z4' : (bs [b0, b1, b2, b3]).size = 4 := rfl
  have KA := Lib.hid (more_any x (s ++ bs [a0, a1, a2, a3]) (by rw [ByteArray.size_append, z4]; omega))
  have KB := Lib.hid (more_any x (s ++ bs [b0, b1, b2, b3]) (by rw [ByteArray.size_append, z4']; omega))
  rw [L_app, L_bs] at KA KB
  have addA : ∀ W : World, (Op.stringOp .add s (bs [a0, a1, a2, a3])).run Try.prog W = .ok (.string (s ++ bs [a0, a1, a2, a3])) W := fun W => run_string_add_sum W s (bs [a0, a1, a2, a3]) (by rw [z4]; omega)
  have addB : ∀ W : World, (Op.stringOp .add s (bs [b0, b1, b2, b3])).run Try.prog W = .ok (.string (s ++ bs [b0, b1, b2, b3])) W := fun W => run_string_add_sum W s (bs [b0, b1, b2, b3]) (by rw [z4']; omega)
  have leA : ¬ (9223372036854775807 < s.size + (bs [a0, a1, a2, a3]).size) := by rw [z4]; omega
  have leB : ¬ (9223372036854775807 < s.size + (bs [b0, b1, b2, b3]).size) := by rw [z4']; omega
  have EV := Lib.hid (same4 a0 a1 a2 a3 b0 b1 b2 b3)
  clear z4 z4' hs big
  by_cases e : [a0, a1, a2, a3] = [b0, b1, b2, b3]
  · rw [decide_eq_true e] at EV
    have heq : ∀ W : World, (Op.equalIn 10000 34 (.agg #[.int .u8 (a0.toNat : Int), .int .u8 (a1.toNat : Int), .int .u8 (a2.toNat : Int), .int .u8 (a3.toNat : Int)]) (.agg #[.int .u8 (b0.toNat : Int), .int .u8 (b1.toNat : Int), .int .u8 (b2.toNat : Int), .int .u8 (b3.toNat : Int)])).run Try.prog W = .ok true W := fun W => by
      have := eq4 9998 (a0.toNat : Int) (a1.toNat : Int) (a2.toNat : Int) (a3.toNat : Int) (b0.toNat : Int) (b1.toNat : Int) (b2.toNat : Int) (b3.toNat : Int) W
      rw [this, EV.out]
    have EQ : crcMore x (L s ++ [a0, a1, a2, a3]) = crcMore x (L s ++ [b0, b1, b2, b3]) := by rw [e]
    rw [EQ] at KA
    clear EQ
    generalize crcMore x (L s ++ [b0, b1, b2, b3]) = Y at *
    clear EV e
    go_enter Try.func6, Try.ntmps6
    go_upto_region 3 with fail
    have M := Two.new w #[.int .u8 (a0.toNat : Int), .int .u8 (a1.toNat : Int), .int .u8 (a2.toNat : Int), .int .u8 (a3.toNat : Int)] #[.int .u8 (b0.toNat : Int), .int .u8 (b1.toNat : Int), .int .u8 (b2.toNat : Int), .int .u8 (b3.toNat : Int)] 34 34
    generalize (w.alloc (.cells #[.int .u8 (a0.toNat : Int), .int .u8 (a1.toNat : Int), .int .u8 (a2.toNat : Int), .int .u8 (a3.toNat : Int)] 34)).alloc (.cells #[.int .u8 (b0.toNat : Int), .int .u8 (b1.toNat : Int), .int .u8 (b2.toNat : Int), .int .u8 (b3.toNat : Int)] 34) = W0 at *
    obtain ⟨g, hg⟩ : ∃ g, g = w.heap.size := ⟨_, rfl⟩
    obtain ⟨r, hr⟩ : ∃ r, r = g + 1 := ⟨_, rfl⟩
    rw [← hg, ← hr] at M
    rw [← hg, ← hr]
    clear hg hr
    obtain ⟨c0, c1, c2, c3⟩ := M.bg.four
    obtain ⟨k0, k1, k2, k3⟩ := M.br.four
    have BA : Byt W0 g [a0, a1, a2, a3] := byt4 c0 c1 c2 c3
    have BB : Byt W0 r [b0, b1, b2, b3] := byt4 k0 k1 k2 k3
    have VA := conv_of (n := 4) (c := 4) (l := [a0, a1, a2, a3]) rfl BA
    have VB := conv_of (n := 4) (c := 4) (l := [b0, b1, b2, b3]) rfl BB
    go_region_held3 (fun w' => (convert 32 9 (.slice (some ⟨g, 0, none⟩) 4 4)).run Try.prog w' = .ok (.string (bs [a0, a1, a2, a3])) w' ∧ (convert 32 9 (.slice (some ⟨r, 0, none⟩) 4 4)).run Try.prog w' = .ok (.string (bs [b0, b1, b2, b3])) w' ∧ w'.cell? ⟨g, 0, none⟩ = some (.int .u8 (a0.toNat : Int)) ∧ w'.cell? ⟨g, 1, none⟩ = some (.int .u8 (a1.toNat : Int)) ∧ w'.cell? ⟨g, 2, none⟩ = some (.int .u8 (a2.toNat : Int)) ∧ w'.cell? ⟨g, 3, none⟩ = some (.int .u8 (a3.toNat : Int)) ∧ w'.cell? ⟨r, 0, none⟩ = some (.int .u8 (b0.toNat : Int)) ∧ w'.cell? ⟨r, 1, none⟩ = some (.int .u8 (b1.toNat : Int)) ∧ w'.cell? ⟨r, 2, none⟩ = some (.int .u8 (b2.toNat : Int)) ∧ w'.cell? ⟨r, 3, none⟩ = some (.int .u8 (b3.toNat : Int)))
      ((refine ⟨?_, ?_, ?_, ?_, ?_, ?_, ?_, ?_, ?_, ?_⟩ <;> (repeat (first | with_reducible exact BA | with_reducible exact BB | with_reducible exact c0 | with_reducible exact c1 | with_reducible exact c2 | with_reducible exact c3 | with_reducible exact k0 | with_reducible exact k1 | with_reducible exact k2 | with_reducible exact k3 | with_reducible refine conv4 ?_ | with_reducible refine Byt.drew ?_ | with_reducible refine Byt.next (by assumption) ?_ | with_reducible refine keep_drew ?_ | with_reducible refine keep_cell (by assumption) ?_))))
      (first
        | (go_at_call 10; (with_reducible refine (KA.out _).mono ?_); rintro e z1 ⟨rfl, hz1⟩)
        | (go_at_call 10; (with_reducible refine (KB.out _).mono ?_); rintro e z2 ⟨rfl, hz2⟩))
    all_goals go_wp2_with fail
    all_goals refine (awake_any _).mono ?_
    all_goals rintro e z3 ⟨rfl, hz3⟩
    all_goals go_wp2_with fail
    all_goals (go_ret; refine ⟨rfl, ?_⟩; repeat (first | with_reducible exact M.drew.bl | with_reducible refine below_step ?_ (by assumption)))
  · rw [decide_eq_false e] at EV
    have heq : ∀ W : World, (Op.equalIn 10000 34 (.agg #[.int .u8 (a0.toNat : Int), .int .u8 (a1.toNat : Int), .int .u8 (a2.toNat : Int), .int .u8 (a3.toNat : Int)]) (.agg #[.int .u8 (b0.toNat : Int), .int .u8 (b1.toNat : Int), .int .u8 (b2.toNat : Int), .int .u8 (b3.toNat : Int)])).run Try.prog W = .ok false W := fun W => by
      have := eq4 9998 (a0.toNat : Int) (a1.toNat : Int) (a2.toNat : Int) (a3.toNat : Int) (b0.toNat : Int) (b1.toNat : Int) (b2.toNat : Int) (b3.toNat : Int) W
      rw [this, EV.out]
    have NE : ¬ crcMore x (L s ++ [a0, a1, a2, a3]) = crcMore x (L s ++ [b0, b1, b2, b3]) := fun h => e (by
      unfold crcMore at h
      have := congrArg (~~~ ·) h
      simp only [BitVec.not_not] at this
      exact (last_four rfl rfl).1 this)
    have NJ : ¬ J (crcMore x (L s ++ [a0, a1, a2, a3])) = J (crcMore x (L s ++ [b0, b1, b2, b3])) := fun h => NE (J_inj h)
    generalize crcMore x (L s ++ [a0, a1, a2, a3]) = X at *
    generalize crcMore x (L s ++ [b0, b1, b2, b3]) = Y at *
    have NB : (J X == J Y) = false := by simpa using NJ
    clear NE
    clear EV e
    go_enter Try.func6, Try.ntmps6
    go_upto_region 3 with fail
    have M := Two.new w #[.int .u8 (a0.toNat : Int), .int .u8 (a1.toNat : Int), .int .u8 (a2.toNat : Int), .int .u8 (a3.toNat : Int)] #[.int .u8 (b0.toNat : Int), .int .u8 (b1.toNat : Int), .int .u8 (b2.toNat : Int), .int .u8 (b3.toNat : Int)] 34 34
    generalize (w.alloc (.cells #[.int .u8 (a0.toNat : Int), .int .u8 (a1.toNat : Int), .int .u8 (a2.toNat : Int), .int .u8 (a3.toNat : Int)] 34)).alloc (.cells #[.int .u8 (b0.toNat : Int), .int .u8 (b1.toNat : Int), .int .u8 (b2.toNat : Int), .int .u8 (b3.toNat : Int)] 34) = W0 at *
    obtain ⟨g, hg⟩ : ∃ g, g = w.heap.size := ⟨_, rfl⟩
    obtain ⟨r, hr⟩ : ∃ r, r = g + 1 := ⟨_, rfl⟩
    rw [← hg, ← hr] at M
    rw [← hg, ← hr]
    clear hg hr
    obtain ⟨c0, c1, c2, c3⟩ := M.bg.four
    obtain ⟨k0, k1, k2, k3⟩ := M.br.four
    have BA : Byt W0 g [a0, a1, a2, a3] := byt4 c0 c1 c2 c3
    have BB : Byt W0 r [b0, b1, b2, b3] := byt4 k0 k1 k2 k3
    have VA := conv_of (n := 4) (c := 4) (l := [a0, a1, a2, a3]) rfl BA
    have VB := conv_of (n := 4) (c := 4) (l := [b0, b1, b2, b3]) rfl BB
    go_region_held3 (fun w' => (convert 32 9 (.slice (some ⟨g, 0, none⟩) 4 4)).run Try.prog w' = .ok (.string (bs [a0, a1, a2, a3])) w' ∧ (convert 32 9 (.slice (some ⟨r, 0, none⟩) 4 4)).run Try.prog w' = .ok (.string (bs [b0, b1, b2, b3])) w' ∧ w'.cell? ⟨g, 0, none⟩ = some (.int .u8 (a0.toNat : Int)) ∧ w'.cell? ⟨g, 1, none⟩ = some (.int .u8 (a1.toNat : Int)) ∧ w'.cell? ⟨g, 2, none⟩ = some (.int .u8 (a2.toNat : Int)) ∧ w'.cell? ⟨g, 3, none⟩ = some (.int .u8 (a3.toNat : Int)) ∧ w'.cell? ⟨r, 0, none⟩ = some (.int .u8 (b0.toNat : Int)) ∧ w'.cell? ⟨r, 1, none⟩ = some (.int .u8 (b1.toNat : Int)) ∧ w'.cell? ⟨r, 2, none⟩ = some (.int .u8 (b2.toNat : Int)) ∧ w'.cell? ⟨r, 3, none⟩ = some (.int .u8 (b3.toNat : Int)))
      ((refine ⟨?_, ?_, ?_, ?_, ?_, ?_, ?_, ?_, ?_, ?_⟩ <;> (repeat (first | with_reducible exact BA | with_reducible exact BB | with_reducible exact c0 | with_reducible exact c1 | with_reducible exact c2 | with_reducible exact c3 | with_reducible exact k0 | with_reducible exact k1 | with_reducible exact k2 | with_reducible exact k3 | with_reducible refine conv4 ?_ | with_reducible refine Byt.drew ?_ | with_reducible refine Byt.next (by assumption) ?_ | with_reducible refine keep_drew ?_ | with_reducible refine keep_cell (by assumption) ?_))))
      (first
        | (go_at_call 10; (with_reducible refine (KA.out _).mono ?_); rintro e z1 ⟨rfl, hz1⟩)
        | (go_at_call 10; (with_reducible refine (KB.out _).mono ?_); rintro e z2 ⟨rfl, hz2⟩))
    all_goals go_wp2_with fail
    all_goals refine (awake_any _).mono ?_
    all_goals rintro e z3 ⟨rfl, hz3⟩
    all_goals go_wp2_with fail
    all_goals (go_ret; refine ⟨rfl, ?_⟩; repeat (first | with_reducible exact M.drew.bl | with_reducible refine below_step ?_ (by assumption)))

set_option maxRecDepth 100000 in
theorem lifted (os : Os) (started : os.Started) (H : Type) (enc : TypeId × Value → H) :
    ReturnsInHanded {} Try.checked os 6 .any (Rows.crcLastSpec.pre6 enc Try.prog Try.f6 Rows.crcLastRow.domain false) (Rows.crcLastSpec.post enc Try.prog Try.f6 false true false false) := by
  refine returnsInHanded_of_change (C := Try.checked) own started (by kernel_rfl) Try.func6
    (ChangeSpec.witness6 (enc := enc) (C := Try.checked) false ⟨#[], #[.int .u32 0, .string ⟨#[]⟩, .agg #[.int .u8 0, .int .u8 0, .int .u8 0, .int .u8 0], .agg #[.int .u8 0, .int .u8 0, .int .u8 0, .int .u8 0]], []⟩ 8 (by kernel_rfl) (by kernel_rfl) (by kernel_rfl) (by kernel_rfl)) ?_
  intro W base args ds gs before hval0 hW hcnd _
  have hval : ∀ (j : Nat) t v, Try.f6.params[j]? = some t → args[j]? = some v → Value.okWide Try.prog W .any base t v := hval0
  have hW' := hW
  obtain ⟨p, q, hA0, hV, rfl, _, _⟩ := hW
  have hA : DataW.TrodAll enc Try.prog W 0 (fun _ => true) true Try.f6.params.toList args.toList ds p := hA0
  rw [Try.params6] at hA hval
  obtain ⟨v0, v1, v2, v3, d0, d1, d2, d3, p0, p1, p2, p3, rfl, rfl, rfl, h0t, h1t, h2t, h3t⟩ := trodAll_four hA
  obtain ⟨rfl, rfl⟩ := trodVars_none hV
  obtain ⟨x0, rfl⟩ := open_u32 (hval 0 22 v0 rfl rfl) h0t
  obtain ⟨s1, rfl, -, -, hs1⟩ := Go.ChangeMaps.open_string Try.underlying9 (hval 1 9 v1 rfl rfl) h1t
  obtain ⟨p2a, p2b, p2c, p2d, rfl⟩ := open_b4 (hval 2 34 v2 rfl rfl) h2t
  obtain ⟨p3a, p3b, p3c, p3d, rfl⟩ := open_b4 (hval 3 34 v3 rfl rfl) h3t
  clear hA0 hval0
  simp only [List.append_nil] at hW'
  have hlt : ∀ x ∈ p0 ++ p1 ++ p2 ++ p3, x.block < W.heap.size := fun x hx => by simpa using hW'.lt x (by simpa using hx)
  refine (walk x0 s1 p2a p2b p2c p2d p3a p3b p3c p3d hs1 W).mono fun e W' ⟨he, hbl⟩ => ?_
  subst he
  refine ⟨_, rfl, post_args hW' (fun _ _ _ => trodAll_mk1 (shut_bool Try.underlying4 _)) ?_ (fun _ => rfl) hbl⟩
  have t0 := Below.trod laidOut readable_u32 typed_u32 h0t hbl (fun x hx => hlt x (List.mem_append_left _ (List.mem_append_left _ (List.mem_append_left _ hx))))
  have t1 := Below.trod laidOut readable_str typed_str h1t hbl (fun x hx => hlt x (List.mem_append_left _ (List.mem_append_left _ (List.mem_append_right _ hx))))
  have t2 := Below.trod laidOut readable_b4 typed_b4 h2t hbl (fun x hx => hlt x (List.mem_append_left _ (List.mem_append_right _ hx)))
  have t3 := Below.trod laidOut readable_b4 typed_b4 h3t hbl (fun x hx => hlt x (List.mem_append_right _ hx))
  exact (show p0 ++ (p1 ++ (p2 ++ p3)) = p0 ++ p1 ++ p2 ++ p3 by simp only [List.append_assoc]) ▸ trodAll_mk4 t0 t1 t2 t3

theorem proved : Rows.CrcLastSaid :=
  OpenClaim.holds_of_wide 6 Try.f6 rfl rfl rfl rfl rfl rfl rfl ⟨rfl, rfl, rfl, rfl, rfl⟩ rfl rfl rfl rfl rfl (by kernel_rfl) Try.func6 (by kernel_rfl)
    (of_decide_eq_true (by kernel_rfl)) (by unfold Func.isWrapper; first | (rw [if_pos (by decide +kernel)]; kernel_rfl) | (rw [if_neg (by decide +kernel)]; exact ⟨rfl, rfl⟩))
    (fun os started H enc _ => lifted os started H enc)
#print axioms proved
end Go.Proofs.Ytkghlijmlifmjaa.crcLast
