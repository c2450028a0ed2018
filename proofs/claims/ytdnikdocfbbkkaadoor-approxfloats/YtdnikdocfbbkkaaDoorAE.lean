/- The walk of the law ApproxFloats, out of what is asked of approx's calls. -/
import Derived.Test.YtdnikdocfbbkkaaDoorJ19
namespace Go.Proofs.YtdnikdocfbbkkaaDoor.approxFloats
open Go.RowKit
open Go.Proofs.YtdnikdocfbbkkaaDoor
set_option linter.unusedVariables false
set_option linter.unusedSimpArgs false

set_option maxHeartbeats 4000000 in
set_option maxRecDepth 100000 in
theorem long (K : App) {A A' : Option Addr} {n c n' c' : Nat} {w : World} (z : ¬ (n ≤ 70 ∧ n' ≤ 70)) : Calls Tryd.prog 7 #[.agg #[.slice A n c, .slice A' n' c']] w fun e w' => e = .returned (.bool true) ∧ Below w.heap.size w w' := by
  have S := (Fs.start w).box (.slice A n c) (.slice A' n' c')
  have KA := Lib.hid K
  have Z := Lib.hid z
  clear z K
  go_enter Tryd.func7, Tryd.ntmps7
  go_wp2_with fail
  generalize w.alloc (.cells #[.slice A n c, .slice A' n' c'] 50) = w0 at *
  refine (small3_no _ _ _ _ _ _ _ Z.out).mono ?_
  rintro e y1 ⟨rfl, B1⟩
  have S := S.next B1
  clear B1
  go_wp2_with fail
  refine (awake4 KA.out _).mono ?_
  rintro e y2 ⟨rfl, B1⟩
  have S := S.next B1
  go_wp2_with fail
  go_ret
  exact ⟨rfl, S.bl⟩
set_option maxHeartbeats 4000000 in
set_option maxRecDepth 100000 in
theorem none_ (K : App) {A A' : Option Addr} {n c n' c' : Nat} {xs ys : List Nat} {w : World} (h0 : Lim w A n c xs) (h1 : Lim w A' n' c' ys) (z : n ≤ 70) (z' : n' ≤ 70) (f : ¬ Fr xs ys) : Calls Tryd.prog 7 #[.agg #[.slice A n c, .slice A' n' c']] w fun e w' => e = .returned (.bool true) ∧ Below w.heap.size w w' := by
  have S := ((Fs.start w).put h0).put h1 |>.box (.slice A n c) (.slice A' n' c')
  have KA := Lib.hid K
  have Z := Lib.hid z; have Z' := Lib.hid z'
  have F := Lib.hid f; have FB := Lib.hid (frB_no f)
  have fb0 : ∀ W : World, (callFunc 54 #[.float .f64 0]).run Tryd.prog W = .ok (.value (.int .u64 0)) W := fun W => fbits 0 W
  clear z z' K h0 h1 f
  go_enter Tryd.func7, Tryd.ntmps7
  go_wp2_with fail
  generalize w.alloc (.cells #[.slice A n c, .slice A' n' c'] 50) = w0 at *
  refine (small3_yes _ _ _ _ _ _ _ Z.out Z'.out).mono ?_
  rintro e y1 ⟨rfl, B1⟩
  have S := S.next B1
  clear B1
  obtain ⟨⟨x0, x1, -⟩, -⟩ := S.cel
  go_wp2_with fail
  refine (KA.out.fn S.lie.2.1 S.lie.1 F.out).mono ?_
  clear x0 x1
  rintro e y2 ⟨rfl, B1⟩
  have S := S.next B1
  clear B1
  obtain ⟨⟨x0, x1, -⟩, -⟩ := S.cel
  go_wp2_with fail
  have KK := right3_any S.lie.2.1 S.lie.1
  rw [FB.out] at KK
  refine KK.mono ?_
  clear KK x0 x1
  rintro e y3 ⟨rfl, B1⟩
  have S := S.next B1
  clear B1
  go_wp2_with (simp only [fb0])
  refine (awake4 KA.out _).mono ?_
  rintro e y4 ⟨rfl, B1⟩
  have S := S.next B1
  go_wp2_with fail
  go_ret
  exact ⟨rfl, S.bl⟩
set_option maxHeartbeats 4000000 in
set_option maxRecDepth 100000 in
theorem yes (K : App) {A A' : Option Addr} {n c n' c' p q : Nat} {w : World} (h0 : Lim w A n c (limbs p)) (h1 : Lim w A' n' c' (limbs q)) (z : n ≤ 70) (z' : n' ≤ 70) (f : Fq p q) : Calls Tryd.prog 7 #[.agg #[.slice A n c, .slice A' n' c']] w fun e w' => e = .returned (.bool true) ∧ Below w.heap.size w w' := by
  have S := ((Fs.start w).put h0).put h1 |>.box (.slice A n c) (.slice A' n' c')
  have KA := Lib.hid K
  have Z := Lib.hid z; have Z' := Lib.hid z'
  have F := Lib.hid f; have FB := Lib.hid (frB_yes f.fr)
  clear z z' K h0 h1 f
  go_enter Tryd.func7, Tryd.ntmps7
  go_wp2_with fail
  generalize w.alloc (.cells #[.slice A n c, .slice A' n' c'] 50) = w0 at *
  refine (small3_yes _ _ _ _ _ _ _ Z.out Z'.out).mono ?_
  rintro e y1 ⟨rfl, B1⟩
  have S := S.next B1
  clear B1
  obtain ⟨⟨x0, x1, -⟩, -⟩ := S.cel
  go_wp2_with fail
  refine (KA.out.fl S.lie.2.1 S.lie.1 F.out).mono ?_
  clear x0 x1
  rintro e y2 ⟨b, fl, rfl, B1⟩
  have FL := Lib.hid fl
  have S := S.next B1
  clear B1 fl
  obtain ⟨⟨x0, x1, -⟩, -⟩ := S.cel
  go_wp2_with fail
  have KK := right3_any S.lie.2.1 S.lie.1
  rw [FB.out] at KK
  refine KK.mono ?_
  clear KK x0 x1
  rintro e y3 ⟨rfl, B1⟩
  have S := S.next B1
  clear B1
  go_upto_region 6 with fail
  obtain ⟨⟨x0, x1, -⟩, -⟩ := S.cel
  have KR : Hid (∀ W, Below y3.heap.size y3 W → Calls Tryd.prog 55 #[.agg #[.slice A n c, .slice A' n' c']] W fun e w' => e = .returned (.float .f64 b) ∧ Below W.heap.size W w') := fun W hb => (float4_any (S.lie.2.1.next hb) (S.lie.1.next hb) F.out.lp F.out.lq F.out.q0).mono fun e w' ⟨b', f', he, hb'⟩ => ⟨by rw [he, f'.same FL.out], hb'⟩
  have CC : Hid (∀ W, Below y3.heap.size y3 W → W.cell? ⟨w.heap.size, 0, none⟩ = some (.slice A n c) ∧ W.cell? ⟨w.heap.size, 1, none⟩ = some (.slice A' n' c')) := fun W h => ⟨keep_cell h x0, keep_cell h x1⟩
  have SS := Lib.hid S
  clear S x0 x1
  have fb := fun W => fbits b W
  go_region_held3 (fun W => W.cell? ⟨w.heap.size, 0, none⟩ = some (.slice A n c) ∧ W.cell? ⟨w.heap.size, 1, none⟩ = some (.slice A' n' c'))
    ((refine CC.out _ ?_; repeat (first | with_reducible exact Below.refl _ _ | with_reducible exact (Below.refl _ _).drew | refine below_step ?_ (by assumption))))
    (first
      | (simp only [fb])
      | (go_at_call 55; (with_reducible refine (KR.out _ ?_).mono ?_); (· repeat (first | with_reducible exact Below.refl _ _ | with_reducible exact (Below.refl _ _).drew | refine below_step ?_ (by assumption))); rintro e r1 ⟨rfl, C1⟩)
      | (go_at_call 52; refine (awake4 KA.out _).mono ?_; rintro e r2 ⟨rfl, C2⟩))
  all_goals go_wp2_with fail
  all_goals go_ret
  all_goals exact ⟨rfl, ((SS.out.drew.next C1).next C2).bl⟩
theorem walk (K : App) {A A' : Option Addr} {n c n' c' : Nat} {xs ys : List Nat} {w : World} (h0 : Lim w A n c xs) (h1 : Lim w A' n' c' ys) : Calls Tryd.prog 7 #[.agg #[.slice A n c, .slice A' n' c']] w fun e w' => e = .returned (.bool true) ∧ Below w.heap.size w w' := by
  by_cases z : n ≤ 70 ∧ n' ≤ 70
  · by_cases f : Fr xs ys
    · obtain ⟨k, e0, e1⟩ := f.num h0.lo h1.lo
      exact yes K (e0 ▸ h0) (e1 ▸ h1) z.1 z.2 k
    · exact none_ K h0 h1 z.1 z.2 f
  · exact long K z
end Go.Proofs.YtdnikdocfbbkkaaDoor.approxFloats
