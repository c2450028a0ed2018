/- Write of the program, of one that may be. -/
import Derived.Test.YtiombblclgkigaaSH
namespace Go.Proofs.Ytiombblclgkigaa
open Go.RowKit
set_option maxHeartbeats 1000000
set_option maxRecDepth 100000
set_option linter.unusedSimpArgs false
set_option linter.unusedVariables false
theorem L_app (a b : ByteArray) : L (a ++ b) = L a ++ L b := by cases a; cases b; simp
theorem newb4 {Y z : World} {a b c d : Value} {t : TypeId} (h : Below (Y.alloc (.cells #[a, b, c, d] t)).heap.size (Y.alloc (.cells #[a, b, c, d] t)) z) : Box z Y.heap.size #[a, b, c, d] := (Box.new Y _ t).next h
theorem newb4d {Y z : World} {a b c d : Value} {t : TypeId} (h : Below (Y.alloc (.cells #[a, b, c, d] t)).drew.heap.size (Y.alloc (.cells #[a, b, c, d] t)).drew z) : Box z Y.heap.size #[a, b, c, d] := (Box.new Y _ t).drew.next h
theorem boxSet4 {W z : World} {b : Nat} {q0 q1 q2 q3 : Value} (k : Box z b #[q0, q1, q2, q3]) (hv : W.heap.size ≤ b) (hb : Below W.heap.size W z) (a c d e : Value) :
    Box ((((z.setCell ⟨b, 0, none⟩ a).setCell ⟨b, 1, none⟩ c).setCell ⟨b, 2, none⟩ d).setCell ⟨b, 3, none⟩ e) b #[a, c, d, e] ∧ Below W.heap.size W ((((z.setCell ⟨b, 0, none⟩ a).setCell ⟨b, 1, none⟩ c).setCell ⟨b, 2, none⟩ d).setCell ⟨b, 3, none⟩ e) :=
  ⟨(((k.set 0 a).set 1 c).set 2 d).set 3 e, below_set (below_set (below_set (below_set hb hv _) hv _) hv _) hv _⟩
theorem write_yes (h : Hs) (hk : h.ok = true) (s : ByteArray) (hs : s.size ≤ 8388608) (hn : h.n + s.size < 9223372036854775808) (w : World) : Calls Try.prog 12 #[h.val, .string s] w fun e w' => e = .returned (h.wr s).val ∧ Below w.heap.size w w' := by
  have k1 := Hs.ok_n hk; have k2 := Hs.ok_t hk
  obtain ⟨⟨y0, y1, y2, y3⟩, t, n⟩ := h
  simp only at k1 k2 hn
  have K := Lib.hid (right_any ⟨y0, y1, y2, y3⟩ t n)
  rw [hk] at K
  have KO := Lib.hid (fourOf_any ⟨y0, y1, y2, y3⟩)
  have KE := Lib.hid (takeEights_any ⟨y0, y1, y2, y3⟩ (t ++ s))
  obtain ⟨⟨z0, z1, z2, z3⟩, hz⟩ : ∃ x, Hid (x = eights ⟨y0, y1, y2, y3⟩ (L (t ++ s))) := ⟨_, Lib.hid rfl⟩
  obtain ⟨u, hu⟩ : ∃ x, Hid (x = bs (rest (L (t ++ s)))) := ⟨_, Lib.hid rfl⟩
  rw [← hz.out, ← hu.out] at KE
  have KA := Lib.hid (array_any ⟨z0, z1, z2, z3⟩)
  have KC := Lib.hid (clone_any u (by rw [hu.out, bs_size, rest_len]; omega))
  have E : Hid (Hs.wr ⟨⟨y0, y1, y2, y3⟩, t, n⟩ s = ⟨⟨z0, z1, z2, z3⟩, u, n + s.size⟩) := by
    unfold Hid Hs.wr; simp only; rw [← L_app, ← hz.out, ← hu.out]
  rw [E.out]
  have n1 : -9223372036854775808 ≤ n + s.size := by omega
  have t1 : ∀ W : World, (Op.stringOp .add t s).run Try.prog W = .ok (.string (t ++ s)) W := fun W => run_string_add_sum W t s (by omega)
  have t2 : ¬ (9223372036854775807 < t.size + s.size) := by omega
  clear hk k2 hs
  go_enter Try.func12, Try.ntmps12
  go_wp2_with fail
  refine (K.out _).mono ?_
  rintro e W1 ⟨rfl, B1⟩
  have M := (Two.new w (Hs.cells ⟨⟨y0, y1, y2, y3⟩, t, n⟩) #[.int .u64 0, .int .u64 0, .int .u64 0, .int .u64 0, .string ⟨#[]⟩, .int .i64 0] 31 31).next B1
  clear B1
  obtain ⟨g, hg⟩ : ∃ g, g = w.heap.size := ⟨_, rfl⟩
  obtain ⟨r, hr⟩ : ∃ r, r = g + 1 := ⟨_, rfl⟩
  rw [← hg, ← hr] at M
  rw [← hg, ← hr]
  clear hg hr
  go_upto_region 3 with fail
  change Two w g r #[.int .u64 (I y0), .int .u64 (I y1), .int .u64 (I y2), .int .u64 (I y3), .string t, .int .i64 n] _ _ at M
  obtain ⟨c0, c1, c2, c3, c4, c5⟩ := M.bg.six
  have gl := M.bg.lt
  go_cut [5, 6] (fun s5 s6 wx => ∃ b, s5 = .pointer (some ⟨b, 0, none⟩) ∧ s6 = .string u ∧ Box wx b #[.int .u64 (I z0), .int .u64 (I z1), .int .u64 (I z2), .int .u64 (I z3)] ∧ Below W1.heap.size W1 wx ∧ W1.heap.size ≤ b)
  case first =>
    go_region_held3 (fun w' => w'.cell? ⟨g, 0, none⟩ = some (.int .u64 (I y0)) ∧ w'.cell? ⟨g, 1, none⟩ = some (.int .u64 (I y1)) ∧ w'.cell? ⟨g, 2, none⟩ = some (.int .u64 (I y2)) ∧ w'.cell? ⟨g, 3, none⟩ = some (.int .u64 (I y3)) ∧ w'.cell? ⟨g, 4, none⟩ = some (.string t))
      ((refine ⟨?_, ?_, ?_, ?_, ?_⟩ <;> (repeat (first | with_reducible exact c0 | with_reducible exact c1 | with_reducible exact c2 | with_reducible exact c3 | with_reducible exact c4 | with_reducible refine keep_drew ?_ | with_reducible refine keep_alloc ?_ _ | with_reducible refine keep_set ?_ _ (by first | omega | (simp only [World.size_alloc, World.size_drew]; omega)) | with_reducible refine keep_cell (by assumption) ?_))))
      (first
        | (go_at_call 21; refine (KO.out _).mono ?_; rintro e z1 ⟨rfl, hz1⟩; (try ((first | have kk := newb4 hz1 | have kk := newb4d hz1); (try simp only [World.size_drew] at kk))); have q1 := hz1.size; (try simp only [World.size_alloc, World.size_drew] at q1))
        | (go_at_call 15; refine (KE.out _).mono ?_; rintro e z2 ⟨rfl, hz2⟩; (try ((first | have kk2 := newb4 hz2 | have kk2 := newb4d hz2 | have kk2 := kk.next hz2); (try simp only [World.size_drew] at kk2); obtain ⟨p0, p1, p2, p3⟩ := kk2.four; have o0 := kk2.melt 0; have o1 := kk2.melt 1; have o2 := kk2.melt 2; have o3 := kk2.melt 3)); have q2 := hz2.size; (try simp only [World.size_alloc, World.size_drew] at q2)))
    all_goals go_wp2_with fail
    all_goals go_meet
    all_goals first
      | (with_reducible refine ⟨_, rfl, rfl, Box.new _ _ _, below_al ?_ _, by omega⟩; (repeat (first | with_reducible exact Below.refl _ _ | with_reducible exact (Below.refl _ _).drew | with_reducible refine below_al ?_ _ | with_reducible refine Below.drew ?_ | refine below_step ?_ (by assumption))); done)
      | (have BB : Below W1.heap.size W1 z2 := by (repeat (first | with_reducible exact Below.refl _ _ | with_reducible exact (Below.refl _ _).drew | with_reducible refine below_al ?_ _ | with_reducible refine Below.drew ?_ | refine below_step ?_ (by assumption)))
         obtain ⟨X, Y⟩ := boxSet4 (W := W1) kk2 (by omega) BB (.int .u64 (I z0)) _ _ _
         exact ⟨_, rfl, rfl, X, Y, by omega⟩)
  obtain ⟨b, rfl, rfl, bb, B1, lb⟩ := hcut
  have nb : b ≠ r := by have := M.br.lt; omega
  have ng : g ≠ r := M.ne
  replace M := M.next B1
  clear B1 c0 c1 c2 c3 c4 c5 gl KE KO
  obtain ⟨b0, b1, b2, b3⟩ := bb.four
  obtain ⟨c0, c1, c2, c3, c4, c5⟩ := M.bg.six
  go_upto_region 4 with fail
  go_region_held3 (fun w' => w'.cell? ⟨b, 0, none⟩ = some (.int .u64 (I z0)) ∧ w'.cell? ⟨b, 1, none⟩ = some (.int .u64 (I z1)) ∧ w'.cell? ⟨b, 2, none⟩ = some (.int .u64 (I z2)) ∧ w'.cell? ⟨b, 3, none⟩ = some (.int .u64 (I z3)) ∧ w'.cell? ⟨g, 5, none⟩ = some (.int .i64 n))
    ((refine ⟨?_, ?_, ?_, ?_, ?_⟩ <;> (repeat (first | with_reducible exact b0 | with_reducible exact b1 | with_reducible exact b2 | with_reducible exact b3 | with_reducible exact c5 | with_reducible refine keep_drew ?_ | with_reducible refine keep_set ?_ _ (by first | exact nb | exact ng) | with_reducible refine keep_cell (by assumption) ?_))))
    (first
      | (go_at_call 19; refine (KA.out _).mono ?_; rintro e x1 ⟨rfl, hx1⟩; (first | have M2 := M1.next hx1 | have M1 := M.drew.next hx1); (try (obtain ⟨k0, k1, k2, k3, k4, k5⟩ := M2.br.six; have m0 := M2.br.melt 0; have m1 := M2.br.melt 1; have m2 := M2.br.melt 2; have m3 := M2.br.melt 3; have m4 := M2.br.melt 4; have m5 := M2.br.melt 5)))
      | (go_at_call 22; refine (KC.out _).mono ?_; rintro e x2 ⟨rfl, hx2⟩; (first | have M2 := M1.next hx2 | have M1 := M.drew.next hx2); (try (obtain ⟨k0, k1, k2, k3, k4, k5⟩ := M2.br.six; have m0 := M2.br.melt 0; have m1 := M2.br.melt 1; have m2 := M2.br.melt 2; have m3 := M2.br.melt 3; have m4 := M2.br.melt 4; have m5 := M2.br.melt 5))))
  have wn : IntKind.i64.wrap (n + s.size) = n + s.size := by rw [IntKind.wrap_i64]; omega
  rw [wn]
  replace M := M2.put6 (.int .u64 (I z0)) (.int .u64 (I z1)) (.int .u64 (I z2)) (.int .u64 (I z3)) (.string u) (.int .i64 (n + s.size))
  generalize (((((x2.setCell ⟨r, 0, none⟩ (.int .u64 (I z0))).setCell ⟨r, 1, none⟩ (.int .u64 (I z1))).setCell ⟨r, 2, none⟩ (.int .u64 (I z2))).setCell ⟨r, 3, none⟩ (.int .u64 (I z3))).setCell ⟨r, 4, none⟩ (.string u)).setCell ⟨r, 5, none⟩ (.int .i64 (n + s.size)) = W3 at *
  clear b0 b1 b2 b3 c0 c1 c2 c3 c4 c5 k0 k2 k3 k4 k5 m0 m1 m2 m3 m4 m5 M2
  obtain ⟨k0, k1, k2, k3, k4, k5⟩ := M.br.six
  go_wp2_with fail
  exact bodyPost_ret (v := Hs.val ⟨⟨z0, z1, z2, z3⟩, u, n + s.size⟩) (by simp [results, Try.results12, go_sem, k0, k1, k2, k3, k4, k5]) rfl ⟨rfl, M.bl⟩
end Go.Proofs.Ytiombblclgkigaa
