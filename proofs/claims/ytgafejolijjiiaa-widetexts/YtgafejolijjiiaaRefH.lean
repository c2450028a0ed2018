/- The walk of the document's answer: Div. -/
import Derived.Test.YtgafejolijjiiaaRefG
namespace Go.Proofs.Ytgafejolijjiiaa
open Go.RowKit
set_option linter.unusedSimpArgs false
set_option linter.unusedVariables false

theorem refBit_any (n i : Nat) (h : i < 128) (w : World) : Calls Try.prog 35 #[U n, .int .i64 (i : Int)] w fun e w' => e = .returned (.int .u64 (bitI n i)) ∧ Below w.heap.size w w' := by
  by_cases k : i < 64
  · exact refBit_low n i k w
  · obtain ⟨j, rfl⟩ : ∃ j, i = j + 64 := ⟨i - 64, by omega⟩
    have e : ((j + 64 : Nat) : Int) = (j : Int) + 64 := by omega
    rw [e]
    exact refBit_high n j (by omega) w

/-- The blocks of the division: both numbers, both results, and the quotient and the rest so far. -/
structure Dv (w : World) (a b gq gr q r : Nat) (wx : World) : Prop where
  p : Pair w (.int .u64 0) (.int .u64 0) (.int .u64 0) (.int .u64 0) wx
  a0 : wx.cell? ⟨w.heap.size, 0, none⟩ = some (.int .u64 (hi a))
  a1 : wx.cell? ⟨w.heap.size, 1, none⟩ = some (.int .u64 (lo a))
  b0 : wx.cell? ⟨w.heap.size + 1, 0, none⟩ = some (.int .u64 (hi b))
  b1 : wx.cell? ⟨w.heap.size + 1, 1, none⟩ = some (.int .u64 (lo b))
  q0 : wx.cell? ⟨gq, 0, none⟩ = some (.int .u64 (hi q))
  q1 : wx.cell? ⟨gq, 1, none⟩ = some (.int .u64 (lo q))
  qf0 : wx.frozen? ⟨gq, 0, none⟩ = false
  qf1 : wx.frozen? ⟨gq, 1, none⟩ = false
  r0 : wx.cell? ⟨gr, 0, none⟩ = some (.int .u64 (hi r))
  r1 : wx.cell? ⟨gr, 1, none⟩ = some (.int .u64 (lo r))
  rf0 : wx.frozen? ⟨gr, 0, none⟩ = false
  rf1 : wx.frozen? ⟨gr, 1, none⟩ = false
  ne : gq ≠ gr
  gq : w.heap.size + 1 + 1 + 1 < gq
  gr : w.heap.size + 1 + 1 + 1 < gr
theorem Dv.next {w : World} {a b gq gr q r : Nat} {W w1 : World} (t : Dv w a b gq gr q r W) (hb : Below W.heap.size W w1) : Dv w a b gq gr q r w1 :=
  ⟨t.p.next hb, keep_cell hb t.a0, keep_cell hb t.a1, keep_cell hb t.b0, keep_cell hb t.b1, keep_cell hb t.q0, keep_cell hb t.q1, keep_melt hb t.q0 t.qf0, keep_melt hb t.q1 t.qf1, keep_cell hb t.r0, keep_cell hb t.r1, keep_melt hb t.r0 t.rf0, keep_melt hb t.r1 t.rf1, t.ne, t.gq, t.gr⟩
theorem Dv.alloc {w : World} {a b gq gr q r : Nat} {W : World} (t : Dv w a b gq gr q r W) (o : Obj) : Dv w a b gq gr q r (W.alloc o) := t.next ((Below.refl _ _).alloc (Nat.le_refl _) o)
theorem Dv.drew {w : World} {a b gq gr q r : Nat} {W : World} (t : Dv w a b gq gr q r W) : Dv w a b gq gr q r W.drew := ⟨t.p.drew, t.a0, t.a1, t.b0, t.b1, t.q0, t.q1, t.qf0, t.qf1, t.r0, t.r1, t.rf0, t.rf1, t.ne, t.gq, t.gr⟩
theorem Pair.set {w : World} {x0 x1 y0 y1 : Value} {W : World} (t : Pair w x0 x1 y0 y1 W) {p : Addr} (v : Value) (hp : w.heap.size + 1 + 1 + 1 < p.block) : Pair w x0 x1 y0 y1 (W.setCell p v) :=
  ⟨keep_set t.x0 _ (by simp <;> omega), keep_set t.x1 _ (by simp <;> omega), keep_set t.y0 _ (by simp <;> omega), keep_set t.y1 _ (by simp <;> omega), (World.frozen?_setCell _ _ _ _).trans t.f0, (World.frozen?_setCell _ _ _ _).trans t.f1, (World.frozen?_setCell _ _ _ _).trans t.g0, (World.frozen?_setCell _ _ _ _).trans t.g1, by rw [World.size_setCell]; exact t.sz, t.bl.setCell (by omega) _⟩
theorem Dv.putQ {w : World} {a b gq gr q r : Nat} {W : World} (t : Dv w a b gq gr q r W) (x : Nat) : Dv w a b gq gr x r ((W.setCell ⟨gq, 0, none⟩ (.int .u64 (hi x))).setCell ⟨gq, 1, none⟩ (.int .u64 (lo x))) := by
  have h0 := t.q0; have h1 := t.q1; have g := t.gq; have ne := t.ne
  refine ⟨(t.p.set _ g).set _ g, keep_set (keep_set t.a0 _ ?_) _ ?_, keep_set (keep_set t.a1 _ ?_) _ ?_, keep_set (keep_set t.b0 _ ?_) _ ?_, keep_set (keep_set t.b1 _ ?_) _ ?_, by simp [go_sem, h0, h1], by simp [go_sem, h0, h1], ?_, ?_, keep_set (keep_set t.r0 _ (Ne.symm ne)) _ (Ne.symm ne), keep_set (keep_set t.r1 _ (Ne.symm ne)) _ (Ne.symm ne), ?_, ?_, t.ne, t.gq, t.gr⟩
  all_goals first
    | (rw [World.frozen?_setCell, World.frozen?_setCell]; first | exact t.qf0 | exact t.qf1 | exact t.rf0 | exact t.rf1)
    | (simp only []; omega)
theorem Dv.putR {w : World} {a b gq gr q r : Nat} {W : World} (t : Dv w a b gq gr q r W) (x : Nat) : Dv w a b gq gr q x ((W.setCell ⟨gr, 0, none⟩ (.int .u64 (hi x))).setCell ⟨gr, 1, none⟩ (.int .u64 (lo x))) := by
  have h0 := t.r0; have h1 := t.r1; have g := t.gr; have ne := t.ne
  refine ⟨(t.p.set _ g).set _ g, keep_set (keep_set t.a0 _ ?_) _ ?_, keep_set (keep_set t.a1 _ ?_) _ ?_, keep_set (keep_set t.b0 _ ?_) _ ?_, keep_set (keep_set t.b1 _ ?_) _ ?_, keep_set (keep_set t.q0 _ ne) _ ne, keep_set (keep_set t.q1 _ ne) _ ne, ?_, ?_, by simp [go_sem, h0, h1], by simp [go_sem, h0, h1], ?_, ?_, t.ne, t.gq, t.gr⟩
  all_goals first
    | (rw [World.frozen?_setCell, World.frozen?_setCell]; first | exact t.qf0 | exact t.qf1 | exact t.rf0 | exact t.rf1)
    | (simp only []; omega)

/-- At the beginning: both numbers, and the zero. -/
structure Zs (w : World) (a b : Nat) (wx : World) : Prop where
  a0 : wx.cell? ⟨w.heap.size, 0, none⟩ = some (.int .u64 (hi a))
  a1 : wx.cell? ⟨w.heap.size, 1, none⟩ = some (.int .u64 (lo a))
  b0 : wx.cell? ⟨w.heap.size + 1, 0, none⟩ = some (.int .u64 (hi b))
  b1 : wx.cell? ⟨w.heap.size + 1, 1, none⟩ = some (.int .u64 (lo b))
  z0 : wx.cell? ⟨w.heap.size + 1 + 1 + 1 + 1, 0, none⟩ = some (.int .u64 0)
  z1 : wx.cell? ⟨w.heap.size + 1 + 1 + 1 + 1, 1, none⟩ = some (.int .u64 0)
  sz : w.heap.size + 1 + 1 + 1 + 1 < wx.heap.size
theorem Dv.swap {w : World} {a b gq gr q r : Nat} {W : World} (t : Dv w a b gq gr q r W) : Dv w a b gr gq r q W :=
  ⟨t.p, t.a0, t.a1, t.b0, t.b1, t.r0, t.r1, t.rf0, t.rf1, t.q0, t.q1, t.qf0, t.qf1, Ne.symm t.ne, t.gr, t.gq⟩
theorem Dv.start {w : World} {a b : Nat} {W : World} (P : Pair w (.int .u64 0) (.int .u64 0) (.int .u64 0) (.int .u64 0) W) (Z : Zs w a b W) :
    Dv w a b W.heap.size (W.heap.size + 1) 0 0 ((W.alloc (.cells #[.int .u64 0, .int .u64 0] 24)).alloc (.cells #[.int .u64 0, .int .u64 0] 24)).drew := by
  have sz := Z.sz
  have z0 := hi_zero; have z1 := lo_zero
  refine ⟨((P.alloc _).alloc _).drew, keep_alloc (keep_alloc Z.a0 _) _, keep_alloc (keep_alloc Z.a1 _) _, keep_alloc (keep_alloc Z.b0 _) _, keep_alloc (keep_alloc Z.b1 _) _, ?_, ?_, ?_, ?_, ?_, ?_, ?_, ?_, by omega, by omega, by omega⟩ <;> simp [go_sem, World.cell?_alloc_past, z0, z1]
theorem bit_step (a k : Nat) : a / 2 ^ k = 2 * (a / 2 ^ (k + 1)) + a / 2 ^ k % 2 := by
  rw [Nat.pow_succ, ← Nat.div_div_eq_div_mul]; omega
theorem div_up {A b n : Nat} (hb : b ≠ 0) (hn : n ≤ 1) (h : b ≤ 2 * (A % b) + n) : (2 * A + n) / b = A / b + A / b + 1 ∧ (2 * A + n) % b = A % b + n - (b - A % b) := by
  have l := Nat.mod_lt A (show 0 < b by omega)
  have e := Nat.div_add_mod A b
  refine (Nat.div_mod_unique (show 0 < b by omega)).2 ⟨?_, by omega⟩
  have : b * (A / b + A / b + 1) = b * (A / b) + b * (A / b) + b := by rw [Nat.mul_add, Nat.mul_add, Nat.mul_one]
  rw [this]; omega
theorem div_stay {A b n : Nat} (hb : b ≠ 0) (h : ¬ b ≤ 2 * (A % b) + n) : (2 * A + n) / b = A / b + A / b ∧ (2 * A + n) % b = A % b + A % b + n := by
  have e := Nat.div_add_mod A b
  refine (Nat.div_mod_unique (show 0 < b by omega)).2 ⟨?_, by omega⟩
  rw [Nat.mul_add]; omega
theorem refAdd_fits (x y : Nat) (h : Fits (x + y)) (w : World) : Calls Try.prog 12 #[U x, U y] w fun e w' => e = .returned (.tuple #[U (x + y), .bool true]) ∧ Below w.heap.size w w' := by
  have := refAdd_any x y (by unfold Fits at *; omega) (by unfold Fits at *; omega) w
  rw [cut_yes h, fitsB_yes h] at this
  exact this
theorem refAdd_small (x n : Nat) (h : Fits (x + n)) (hn : n ≤ 1) (w : World) : Calls Try.prog 12 #[U x, .agg #[.int .u64 0, .int .u64 (n : Int)]] w fun e w' => e = .returned (.tuple #[U (x + n), .bool true]) ∧ Below w.heap.size w w' := by
  have e : Value.agg #[.int .u64 0, .int .u64 (n : Int)] = U n := U_of (by rw [(nat_words n).1]; omega) (by rw [(nat_words n).2]; omega)
  rw [e]
  exact refAdd_fits x n h w

/-- Before a round, and behind it. -/
def DivAt (w : World) (a b gq gr : Nat) (g : Nat) (s : Value) (wr : World) : Prop := ∃ i : Int, i + 1 = (g : Int) ∧ g ≤ 128 ∧ s = .int .i64 i ∧ Dv w a b gq gr (a / 2 ^ g / b) (a / 2 ^ g % b) wr

set_option maxHeartbeats 1000000 in
set_option maxRecDepth 100000 in
theorem refDiv_zero (a : Nat) (w : World) : Calls Try.prog 20 #[U a, U 0] w fun e w' => e = .returned (.tuple #[U 0, U 0, .bool false]) ∧ Below w.heap.size w w' := by
  have z0 := hi_zero; have z1 := lo_zero
  go_enter Try.func20, Try.ntmps20
  go_wp2_with fail
  go_region
  go_wp2_with fail
  exact bodyPost_ret (v := .tuple #[U 0, U 0, .bool false]) (by simp [results, Try.results20, go_sem, z0, z1]) rfl ⟨rfl, by
    repeat (first | exact Below.refl _ _ | refine Below.drew ?_ | refine Below.alloc ?_ (by (try simp only [World.size_alloc]); omega) _)⟩
set_option maxHeartbeats 4000000 in
set_option maxRecDepth 100000 in
theorem refDiv_some (a b : Nat) (ha : Fits a) (hb : Fits b) (h : b ≠ 0) (w : World) : Calls Try.prog 20 #[U a, U b] w fun e w' => e = .returned (.tuple #[U (a / b), U (a % b), .bool true]) ∧ Below w.heap.size w w' := by
  have HA := Lib.hid ha; have HB := Lib.hid hb; have HN := Lib.hid h
  clear ha hb h
  go_enter Try.func20, Try.ntmps20
  go_upto_region 2 with fail
  have P := (Pair.start w a b (.int .u64 0) (.int .u64 0) (.int .u64 0) (.int .u64 0)).alloc (.cells #[.int .u64 0, .int .u64 0] 24)
  have Z : Zs w a b (((((w.alloc (.cells #[.int .u64 (hi a), .int .u64 (lo a)] 24)).alloc (.cells #[.int .u64 (hi b), .int .u64 (lo b)] 24)).alloc (.cells #[.int .u64 0, .int .u64 0] 24)).alloc (.cells #[.int .u64 0, .int .u64 0] 24)).alloc (.cells #[.int .u64 0, .int .u64 0] 24)) := by
    refine ⟨?_, ?_, ?_, ?_, ?_, ?_, ?_⟩ <;> simp [go_sem, World.cell?_alloc_past]
  generalize ((((w.alloc (.cells #[.int .u64 (hi a), .int .u64 (lo a)] 24)).alloc (.cells #[.int .u64 (hi b), .int .u64 (lo b)] 24)).alloc (.cells #[.int .u64 0, .int .u64 0] 24)).alloc (.cells #[.int .u64 0, .int .u64 0] 24)).alloc (.cells #[.int .u64 0, .int .u64 0] 24) = W at *
  have b0 := Z.b0; have b1 := Z.b1; have z0 := Z.z0; have z1 := Z.z1; have zs := Z.sz; have zt : w.heap.size + 1 + 1 + 1 + 1 < W.heap.size + 1 := by omega
  go_cut [17] (fun s17 wx => s17 = .bool false ∧ wx = W)
  case first =>
    by_cases hh : hi b = 0
    · have e1 : (hi b == 0) = true := by simpa using hh
      have e2 : (lo b == 0) = false := by
        simp; intro e; exact HN.out (eq_of_words (by rw [hh, hi_zero]) (by rw [e, lo_zero]))
      clear hh
      go_wp2_with fail
      go_meet
      exact ⟨rfl, rfl⟩
    · have e1 : (hi b == 0) = false := by simpa using hh
      clear hh
      go_wp2_with fail
      go_meet
      exact ⟨rfl, rfl⟩
  case rest =>
    obtain ⟨rfl, rfl⟩ := hcut
    clear b0 b1
    go_upto_region 4 with fail
    go_cut [8, 9] (fun s8 s9 wx => ∃ gq gr, s8 = .pointer (some ⟨gq, 0, none⟩) ∧ s9 = .pointer (some ⟨gr, 0, none⟩) ∧ Dv w a b gq gr 0 0 wx)
    case first =>
      go_region
      all_goals go_wp2_with fail
      all_goals go_meet
      all_goals go_light
      · exact ⟨_, _, rfl, rfl, Dv.start P Z⟩
      · exact ⟨_, _, rfl, rfl, (Dv.start P Z).swap⟩
    case rest =>
      obtain ⟨gq, gr, rfl, rfl, T⟩ := hcut
      clear z0 z1 zs zt P Z
      go_wp2_with fail
      go_loopg [10, 11, 12, 13] 128 (fun g s10 _ _ _ wr => DivAt w a b gq gr g s10 wr)
      case atStart =>
        have e : a / 2 ^ 128 = 0 := Nat.div_eq_of_lt (by have := HA.out; unfold Fits at this; omega)
        refine ⟨127, rfl, Nat.le_refl _, rfl, ?_⟩
        rw [e, Nat.zero_div, Nat.zero_mod]
        exact T
      case round =>
        clear T
        obtain ⟨i, ei, gl, rfl, T⟩ := hrel
        by_cases z : gk = 0
        · subst z
          obtain rfl : i = -1 := by omega
          have e1 : a / 2 ^ 0 = a := by rw [Nat.pow_zero, Nat.div_one]
          rw [e1] at T
          clear ei e1 gl
          have q0 := T.q0; have q1 := T.q1; have r0 := T.r0; have r1 := T.r1
          have x0 := T.p.x0; have x1 := T.p.x1; have y0 := T.p.y0; have y1 := T.p.y1; have f0 := T.p.f0; have f1 := T.p.f1; have g0 := T.p.g0; have g1 := T.p.g1
          have n1 : gq ≠ w.heap.size + 1 + 1 := by have := T.gq; omega
          have n2 : gq ≠ w.heap.size + 1 + 1 + 1 := by have := T.gq; omega
          have n3 : gr ≠ w.heap.size + 1 + 1 := by have := T.gr; omega
          have n4 : gr ≠ w.heap.size + 1 + 1 + 1 := by have := T.gr; omega
          go_wp2_with fail
          go_region
          all_goals go_wp2_with fail
          all_goals go_light
          exact bodyPost_ret (v := .tuple #[U (a / b), U (a % b), .bool true]) (by simp [results, Try.results20, go_sem, x0, x1, y0, y1]) rfl ⟨rfl, ((((T.p.bl.setCell (by simp only []; omega) _).setCell (by simp only []; omega) _).setCell (by simp only []; omega) _).setCell (by simp only []; omega) _).drew⟩
        · obtain ⟨k, rfl⟩ : ∃ k, gk = k + 1 := ⟨gk - 1, by omega⟩
          obtain rfl : (k : Int) = i := by omega
          have hk : k < 128 := by omega
          obtain ⟨n, en⟩ : ∃ n, a / 2 ^ k % 2 = n := ⟨_, rfl⟩
          have n1 : n ≤ 1 := by omega
          have st := bit_step a k
          rw [en] at st
          have la : a / 2 ^ k ≤ a := Nat.div_le_self _ _
          obtain ⟨A, eA⟩ : ∃ A, a / 2 ^ (k + 1) = A := ⟨_, rfl⟩
          rw [eA] at st T
          have KB := Lib.hid (refBit_any a k hk)
          rw [bitI_eq, en] at KB
          have fa : Fits (2 * A + n) := by have := HA.out; unfold Fits at *; omega
          have ST := Lib.hid st
          have EA := Lib.hid eA
          have N1 := Lib.hid n1
          have FA := Lib.hid fa
          have GL := Lib.hid gl
          have hr : A % b < b := Nat.mod_lt _ (by have := HN.out; omega)
          have hq : A / b ≤ A := Nat.div_le_self _ _
          have D1 : Hid (b ≤ 2 * (A % b) + n → (2 * A + n) / b = A / b + A / b + 1 ∧ (2 * A + n) % b = A % b + n - (b - A % b)) := fun h => div_up HN.out n1 h
          have D2 : Hid (¬ b ≤ 2 * (A % b) + n → (2 * A + n) / b = A / b + A / b ∧ (2 * A + n) % b = A % b + A % b + n) := fun h => div_stay HN.out h
          generalize A / b = q at *
          generalize A % b = r at *
          have F2 : Fits (q + q) := by unfold Fits at *; omega
          have FR : Fits r := by have := HB.out; unfold Fits at *; omega
          have FH : Fits ((b + 1 - n) / 2) := by have := HB.out; unfold Fits at *; omega
          have KQ := Lib.hid (refAdd_fits q q F2)
          have KH := Lib.hid (halfUp_any b HB.out n n1)
          have KC := Lib.hid (refCmp_any r ((b + 1 - n) / 2) FR FH)
          have HS : Hid (0 ≤ sgn r ((b + 1 - n) / 2) ↔ b ≤ 2 * r + n) := by
            unfold Hid
            by_cases c : (b + 1 - n) / 2 ≤ r
            · exact ⟨fun _ => by omega, fun _ => sgn_ge c⟩
            · exact ⟨fun h => absurd h (sgn_lt c), fun h => absurd h (by omega)⟩
          have HR := Lib.hid hr
          clear st la eA fa en n1 ei gl hr hq F2 FR FH hk z
          have a0 := T.a0; have a1 := T.a1
          go_upto_region 9 with (go_at_call 35; refine (KB.out _).mono ?_; rintro e w1 ⟨rfl, hb1⟩)
          have T1 := T.next hb1
          clear hb1 T a0 a1
          have q0 := T1.q0; have q1 := T1.q1; have qf0 := T1.qf0; have qf1 := T1.qf1
          go_upto_region 10 with (go_at_call 12; refine (KQ.out _).mono ?_; rintro e w2 ⟨rfl, hb2⟩; have T2 := T1.next hb2; have u0 := T2.q0; have u1 := T2.q1; have u2 := T2.qf0; have u3 := T2.qf1)
          have T3 := T2.putQ (q + q)
          clear u0 u1 u2 u3 hb2 T2 q0 q1 qf0 qf1 T1
          generalize (w2.setCell ⟨gq, 0, none⟩ (.int .u64 (hi (q + q)))).setCell ⟨gq, 1, none⟩ (.int .u64 (lo (q + q))) = W at *
          have r0 := T3.r0; have r1 := T3.r1; have b0 := T3.b0; have b1 := T3.b1
          go_cut [40] (fun s40 wx => s40 = .bool (decide (0 ≤ sgn r ((b + 1 - n) / 2))) ∧ Dv w a b gq gr (q + q) r wx)
          case first =>
            go_region_held3 (fun w' => w'.cell? ⟨gr, 0, none⟩ = some (.int .u64 (hi r)) ∧ w'.cell? ⟨gr, 1, none⟩ = some (.int .u64 (lo r)) ∧ w'.cell? ⟨w.heap.size + 1, 0, none⟩ = some (.int .u64 (hi b)) ∧ w'.cell? ⟨w.heap.size + 1, 1, none⟩ = some (.int .u64 (lo b)))
              ((refine ⟨?_, ?_, ?_, ?_⟩ <;> (repeat (first | with_reducible exact r0 | with_reducible exact r1 | with_reducible exact b0 | with_reducible exact b1 | with_reducible refine keep_alloc ?_ _ | with_reducible refine keep_drew ?_ | with_reducible refine keep_cell (by assumption) ?_))))
              (first
                | (go_at_call 36; refine (KH.out _).mono ?_; rintro e w3 ⟨rfl, hb3⟩)
                | (go_at_call 16; refine (KC.out _).mono ?_; rintro e w4 ⟨rfl, hb4⟩))
            all_goals go_wp2_with fail
            all_goals go_meet
            all_goals go_light
            exact ⟨rfl, (T3.drew.next hb3).next hb4⟩
          case rest =>
            obtain ⟨rfl, T4⟩ := hcut
            clear r0 r1 b0 b1 T3 KQ KH KC KB
            by_cases c : 0 ≤ sgn r ((b + 1 - n) / 2)
            · have c1 : decide (0 ≤ sgn r ((b + 1 - n) / 2)) = true := by simpa using c
              rw [c1]
              clear c1
              have le := HS.out.1 c
              obtain ⟨d1, d2⟩ := D1.out le
              have hr := HR.out; have n1 := N1.out
              have FB := HB.out
              have F1 : Fits r := by unfold Fits at *; omega
              have F2 : Fits (b - r) := by unfold Fits at *; omega
              have F3 : Fits (r + n) := by unfold Fits at *; omega
              have F4 : Fits (q + q + 1) := by
                have := FA.out
                rw [← d1]
                have := Nat.div_le_self (2 * A + n) b
                unfold Fits at *; omega
              have KS := Lib.hid (refSub_fits b r FB F1 (by omega))
              have KA := Lib.hid (refAdd_small r n F3 n1)
              have KT := Lib.hid (refSub_fits (r + n) (b - r) F3 F2 (by omega))
              have KU : Hid (∀ w, Calls Try.prog 12 #[U (q + q), .agg #[.int .u64 0, .int .u64 1]] w fun e w' => e = .returned (.tuple #[U (q + q + 1), .bool true]) ∧ Below w.heap.size w w') := fun w => refAdd_small (q + q) 1 F4 (Nat.le_refl _) w
              have E1 := Lib.hid d1; have E2 := Lib.hid d2
              clear c le d1 d2 hr n1 FB F1 F2 F3 F4 D1 D2 HS
              have r0 := T4.r0; have r1 := T4.r1; have b0 := T4.b0; have b1 := T4.b1
              go_upto_region 12 with (go_at_call 14; refine (KS.out _).mono ?_; rintro e w5 ⟨rfl, hb5⟩)
              have T5 := (T4.next hb5).alloc (.cells #[.int .u64 (hi (b - r)), .int .u64 (lo (b - r))] 24)
              have o0 : (w5.alloc (.cells #[.int .u64 (hi (b - r)), .int .u64 (lo (b - r))] 24)).cell? ⟨w5.heap.size, 0, none⟩ = some (.int .u64 (hi (b - r))) := by simp [go_sem]
              have o1 : (w5.alloc (.cells #[.int .u64 (hi (b - r)), .int .u64 (lo (b - r))] 24)).cell? ⟨w5.heap.size, 1, none⟩ = some (.int .u64 (lo (b - r))) := by simp [go_sem]
              have on : w5.heap.size ≠ gr := Ne.symm (Nat.ne_of_lt (cell_lt (T4.next hb5).r0))
              clear T4 r0 r1 b0 b1 hb5
              generalize w5.alloc (.cells #[.int .u64 (hi (b - r)), .int .u64 (lo (b - r))] 24) = W5 at *
              generalize w5.heap.size = g5 at *
              have r0 := T5.r0; have r1 := T5.r1
              go_upto_region 13 with (go_at_call 12; refine (KA.out _).mono ?_; rintro e w6 ⟨rfl, hb6⟩; have T6 := T5.next hb6; have u0 := T6.r0; have u1 := T6.r1; have u2 := T6.rf0; have u3 := T6.rf1)
              have T7 := T6.putR (r + n)
              have p0 : ((w6.setCell ⟨gr, 0, none⟩ (.int .u64 (hi (r + n)))).setCell ⟨gr, 1, none⟩ (.int .u64 (lo (r + n)))).cell? ⟨g5, 0, none⟩ = some (.int .u64 (hi (b - r))) := keep_set (keep_set (keep_cell hb6 o0) _ on) _ on
              have p1 : ((w6.setCell ⟨gr, 0, none⟩ (.int .u64 (hi (r + n)))).setCell ⟨gr, 1, none⟩ (.int .u64 (lo (r + n)))).cell? ⟨g5, 1, none⟩ = some (.int .u64 (lo (b - r))) := keep_set (keep_set (keep_cell hb6 o1) _ on) _ on
              clear u0 u1 u2 u3 hb6 r0 r1 o0 o1 T5 T6
              generalize (w6.setCell ⟨gr, 0, none⟩ (.int .u64 (hi (r + n)))).setCell ⟨gr, 1, none⟩ (.int .u64 (lo (r + n))) = W7 at *
              have r0 := T7.r0; have r1 := T7.r1
              go_upto_region 14 with (go_at_call 14; refine (KT.out _).mono ?_; rintro e w8 ⟨rfl, hb8⟩; have T8 := T7.next hb8; have u0 := T8.r0; have u1 := T8.r1; have u2 := T8.rf0; have u3 := T8.rf1)
              have T9 := T8.putR (r + n - (b - r))
              clear u0 u1 u2 u3 hb8 r0 r1 p0 p1 T7 T8
              generalize (w8.setCell ⟨gr, 0, none⟩ (.int .u64 (hi (r + n - (b - r))))).setCell ⟨gr, 1, none⟩ (.int .u64 (lo (r + n - (b - r)))) = W9 at *
              have q0 := T9.q0; have q1 := T9.q1
              go_wp2_with (go_at_call 12; refine (KU.out _).mono ?_; rintro e w10 ⟨rfl, hb10⟩; have T10 := T9.next hb10; have u0 := T10.q0; have u1 := T10.q1; have u2 := T10.qf0; have u3 := T10.qf1)
              go_roundg k
              case measure => omega
              case rel =>
                go_light
                refine ⟨(k : Int) - 1, by omega, by have := GL.out; omega, by have := GL.out; rw [show wrap64 ((k : Int) - 1) = (k : Int) - 1 by unfold wrap64; omega], ?_⟩
                rw [ST.out, E1.out, E2.out]
                exact T10.putQ _
            · have c1 : decide (0 ≤ sgn r ((b + 1 - n) / 2)) = false := by simpa using c
              rw [c1]
              clear c1
              have le : ¬ b ≤ 2 * r + n := fun h => c (HS.out.2 h)
              obtain ⟨d1, d2⟩ := D2.out le
              have FB := HB.out; have n1 := N1.out
              have F1 : Fits (r + r) := by unfold Fits at *; omega
              have F2 : Fits (r + r + n) := by unfold Fits at *; omega
              have KR := Lib.hid (refAdd_fits r r F1)
              have KV := Lib.hid (refAdd_small (r + r) n F2 n1)
              have E1 := Lib.hid d1; have E2 := Lib.hid d2
              clear c le d1 d2 n1 FB F1 F2 D1 D2 HS
              have r0 := T4.r0; have r1 := T4.r1
              go_upto_region 16 with (go_at_call 12; refine (KR.out _).mono ?_; rintro e w5 ⟨rfl, hb5⟩; have T5 := T4.next hb5; have u0 := T5.r0; have u1 := T5.r1; have u2 := T5.rf0; have u3 := T5.rf1)
              have T6 := T5.putR (r + r)
              clear u0 u1 u2 u3 hb5 r0 r1 T4 T5
              generalize (w5.setCell ⟨gr, 0, none⟩ (.int .u64 (hi (r + r)))).setCell ⟨gr, 1, none⟩ (.int .u64 (lo (r + r))) = W6 at *
              have r0 := T6.r0; have r1 := T6.r1
              go_wp2_with (go_at_call 12; refine (KV.out _).mono ?_; rintro e w7 ⟨rfl, hb7⟩; have T7 := T6.next hb7; have u0 := T7.r0; have u1 := T7.r1; have u2 := T7.rf0; have u3 := T7.rf1)
              go_roundg k
              case measure => omega
              case rel =>
                go_light
                refine ⟨(k : Int) - 1, by omega, by have := GL.out; omega, by have := GL.out; rw [show wrap64 ((k : Int) - 1) = (k : Int) - 1 by unfold wrap64; omega], ?_⟩
                rw [ST.out, E1.out, E2.out]
                exact T7.putR _
/-- The document's Div. -/
theorem refDiv_any (a b : Nat) (ha : Fits a) (hb : Fits b) (h : b ≠ 0) (w : World) : Calls Try.prog 20 #[U a, U b] w fun e w' => e = .returned (.tuple #[U (a / b), U (a % b), .bool true]) ∧ Below w.heap.size w w' := refDiv_some a b ha hb h w
end Go.Proofs.Ytgafejolijjiiaa
