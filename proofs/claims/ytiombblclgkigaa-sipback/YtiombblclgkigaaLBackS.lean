/- For every two fours of numbers and every eight the law SipBack answers true: unlike numbers stay unlike, whatever is written. No condition. -/
import Derived.Test.YtiombblclgkigaaSAW
import Derived.Test.YtiombblclgkigaaSLD
import Derived.Test.YtiombblclgkigaaSO
import Derived.Test.YtiombblclgkigaaSQ
namespace Go.Proofs.Ytiombblclgkigaa.sipBack
open Go.ChangeShapes Go.WideShapes Go.ChangeAt Go.RowKit
open Go.Proofs.Ytiombblclgkigaa
set_option linter.unusedVariables false
set_option linter.unusedSimpArgs false

theorem conv1 (W : World) (x : Int) (h0 : 0 ≤ x) (h1 : x < 256) : (convert 38 9 (.slice (some ⟨W.heap.size, 0, none⟩) 1 1)).run Try.prog (W.alloc (.cells #[.int .u8 x] 5)) = .ok (.string (bs [UInt8.ofNat x.toNat])) (W.alloc (.cells #[.int .u8 x] 5)) := by
  have e : ((UInt8.ofNat x.toNat).toNat : Int) = x := by rw [UInt8.toNat_ofNat']; omega
  refine run_convert_bytes_back (W.alloc (.cells #[.int .u8 x] 5)) 38 9 5 ⟨W.heap.size, 0, none⟩ 1 [UInt8.ofNat x.toNat] Try.underlying38 Try.underlying5 Try.underlying9 ?_
  intro j hj
  obtain rfl : j = 0 := by simp at hj; omega
  show (W.alloc (.cells #[.int .u8 x] 5)).cell? ⟨W.heap.size, 0, none⟩ = _
  rw [(Box.new W #[.int .u8 x] 5).cell (i := 0) (v := .int .u8 x) rfl, show [UInt8.ofNat x.toNat][0] = UInt8.ofNat x.toNat from rfl, e]
theorem far6b {W : World} {g r : Nat} {cs : Array Value} (h : Box W g cs) (hne : g ≠ r) (a b c d e f : Value) : Box ((((((W.setCell ⟨r, 0, none⟩ a).setCell ⟨r, 1, none⟩ b).setCell ⟨r, 2, none⟩ c).setCell ⟨r, 3, none⟩ d).setCell ⟨r, 4, none⟩ e).setCell ⟨r, 5, none⟩ f) g cs :=
  (((((h.far hne _).far hne _).far hne _).far hne _).far hne _).far hne _
theorem below6 {B : Nat} {w W : World} {r : Nat} (h : Below B w W) (hr : B ≤ r) (a b c d e f : Value) : Below B w ((((((W.setCell ⟨r, 0, none⟩ a).setCell ⟨r, 1, none⟩ b).setCell ⟨r, 2, none⟩ c).setCell ⟨r, 3, none⟩ d).setCell ⟨r, 4, none⟩ e).setCell ⟨r, 5, none⟩ f) :=
  below_set (below_set (below_set (below_set (below_set (below_set h hr _) hr _) hr _) hr _) hr _) hr _
theorem new1 (Y : World) (o : Obj) (cs : Array Value) (t : TypeId) : Box ((Y.alloc o).alloc (.cells cs t)) (Y.heap.size + 1) cs := by simpa using Box.new (Y.alloc o) cs t
theorem newS (W : World) (r : Nat) (a b c d e f : Value) (cs : Array Value) (t : TypeId) : Box (((((((W.setCell ⟨r, 0, none⟩ a).setCell ⟨r, 1, none⟩ b).setCell ⟨r, 2, none⟩ c).setCell ⟨r, 3, none⟩ d).setCell ⟨r, 4, none⟩ e).setCell ⟨r, 5, none⟩ f).alloc (.cells cs t)) W.heap.size cs := by
  have := Box.new ((((((W.setCell ⟨r, 0, none⟩ a).setCell ⟨r, 1, none⟩ b).setCell ⟨r, 2, none⟩ c).setCell ⟨r, 3, none⟩ d).setCell ⟨r, 4, none⟩ e).setCell ⟨r, 5, none⟩ f) cs t
  simpa [World.setCell] using this
theorem below_goal {B : Nat} {w W : World} (h : Below B w W) : Below B w W := h
theorem beq4 (x0 x1 x2 x3 y0 y1 y2 y3 : BitVec 64) : ((I x0 == I y0) && ((I x1 == I y1) && ((I x2 == I y2) && (I x3 == I y3)))) = true ↔ V4.mk x0 x1 x2 x3 = V4.mk y0 y1 y2 y3 := by
  simp only [Bool.and_eq_true, beq_iff_eq, I_iff, V4.mk.injEq]
abbrev Z6 : Array Value := #[.int .u64 0, .int .u64 0, .int .u64 0, .int .u64 0, .string ⟨#[]⟩, .int .i64 0]
theorem put6b {W : World} {r : Nat} (h : Box W r Z6) (a b c d e f : Value) : Box ((((((W.setCell ⟨r, 0, none⟩ a).setCell ⟨r, 1, none⟩ b).setCell ⟨r, 2, none⟩ c).setCell ⟨r, 3, none⟩ d).setCell ⟨r, 4, none⟩ e).setCell ⟨r, 5, none⟩ f) r #[a, b, c, d, e, f] :=
  (((((h.set 0 a).set 1 b).set 2 c).set 3 d).set 4 e).set 5 f
theorem nz1 {Y z : World} {t : TypeId} (h : Below (Y.alloc (.cells Z6 t)).drew.heap.size (Y.alloc (.cells Z6 t)).drew z) : Box z Y.heap.size Z6 := (Box.new Y _ t).drew.next h
theorem nz2 {Y z : World} {t : TypeId} (h : Below ((Y.alloc (.cells Z6 t)).alloc (.cells Z6 t)).drew.heap.size ((Y.alloc (.cells Z6 t)).alloc (.cells Z6 t)).drew z) : Box z Y.heap.size Z6 ∧ Box z (Y.heap.size + 1) Z6 :=
  ⟨((Box.new Y _ t).alloc _).drew.next h, by have := (Box.new (Y.alloc (.cells Z6 t)) Z6 t).drew.next h; simpa using this⟩
theorem mz1 {Y z : World} {t : TypeId} (h : Below (Y.alloc (.cells Z6 t)).heap.size (Y.alloc (.cells Z6 t)) z) : Box z Y.heap.size Z6 := (Box.new Y _ t).next h
theorem mz2 {Y z : World} {t : TypeId} (h : Below ((Y.alloc (.cells Z6 t)).alloc (.cells Z6 t)).heap.size ((Y.alloc (.cells Z6 t)).alloc (.cells Z6 t)) z) : Box z Y.heap.size Z6 ∧ Box z (Y.heap.size + 1) Z6 :=
  ⟨((Box.new Y _ t).alloc _).next h, by have := (Box.new (Y.alloc (.cells Z6 t)) Z6 t).next h; simpa using this⟩
set_option maxHeartbeats 4000000 in
set_option maxRecDepth 100000 in
theorem walk (a b : V4) (n : BitVec 64) (w : World) : Calls Try.prog 7 #[a.val, b.val, .int .u64 (I n)] w fun e w' => e = .returned (.bool true) ∧ Below w.heap.size w w' := by
  obtain ⟨a0, a1, a2, a3⟩ := a
  obtain ⟨b0, b1, b2, b3⟩ := b
  have hn0 := I_nn n; have hn1 := I_lt n
  go_enter Try.func7, Try.ntmps7
  go_upto_region 1 with fail
  have M := Two.new w #[.int .u64 (I a0), .int .u64 (I a1), .int .u64 (I a2), .int .u64 (I a3)] #[.int .u64 (I b0), .int .u64 (I b1), .int .u64 (I b2), .int .u64 (I b3)] 29 29
  generalize (w.alloc (.cells #[.int .u64 (I a0), .int .u64 (I a1), .int .u64 (I a2), .int .u64 (I a3)] 29)).alloc (.cells #[.int .u64 (I b0), .int .u64 (I b1), .int .u64 (I b2), .int .u64 (I b3)] 29) = W0 at *
  obtain ⟨g, hg⟩ : ∃ g, g = w.heap.size := ⟨_, rfl⟩
  obtain ⟨r, hr⟩ : ∃ r, r = g + 1 := ⟨_, rfl⟩
  rw [← hg, ← hr] at M
  rw [← hg, ← hr]
  clear hg hr
  go_wp2_with fail
  go_loopg [7, 11] 8 (fun q s7 s11 wr => ∃ (k : Nat) (t : ByteArray), k + q = 8 ∧ s11 = .int .i64 (k : Int) ∧ s7 = .string t ∧ t.size = k ∧ Two w g r #[.int .u64 (I a0), .int .u64 (I a1), .int .u64 (I a2), .int .u64 (I a3)] #[.int .u64 (I b0), .int .u64 (I b1), .int .u64 (I b2), .int .u64 (I b3)] wr)
  case atStart => exact ⟨0, _, rfl, rfl, rfl, rfl, M⟩
  case round =>
    clear M
    obtain ⟨k, t, hq, rfl, rfl, ht, M⟩ := hrel
    have HQ := Lib.hid hq
    by_cases lt : k < 8
    · have k1 : (k : Int) < 8 := by omega
      have k0 : (0 : Int) ≤ k := by omega
      clear hq
      obtain ⟨x, hx⟩ : ∃ x, Hid (x = I n / 2 ^ (8 * k) % 256) := ⟨_, Lib.hid rfl⟩
      have x0 : 0 ≤ x := by rw [hx.out]; exact Int.emod_nonneg _ (by decide)
      have x1 : x < 256 := by rw [hx.out]; exact Int.emod_lt_of_pos _ (by decide)
      have hadd : ∀ W : World, (Op.stringOp .add t (bs [UInt8.ofNat x.toNat])).run Try.prog W = .ok (.string (t ++ bs [UInt8.ofNat x.toNat])) W := fun W => run_string_add_sum W _ _ (by have hu : (bs [UInt8.ofNat x.toNat]).size = 1 := rfl; omega)
      have sz : (t ++ bs [UInt8.ofNat x.toNat]).size = k + 1 := by have hu : (bs [UInt8.ofNat x.toNat]).size = 1 := rfl; rw [ByteArray.size_append, hu, ht]
      generalize ht' : t ++ bs [UInt8.ofNat x.toNat] = t' at *
      have HT := Lib.hid sz
      clear sz ht ht'
      go_wp2_with fail
      rw [← hx.out, conv1 _ _ x0 x1]
      generalize bs [UInt8.ofNat x.toNat] = u at *
      replace M := M.next ((Below.refl _ _).alloc (Nat.le_refl wr.heap.size) (.cells #[.int .u8 x] 5))
      generalize wr.alloc (.cells #[.int .u8 x] 5) = W1 at *
      go_wp2_with fail
      go_roundg (gk - 1)
      case measure => have := HQ.out; omega
      case rel =>
        go_light
        exact ⟨k + 1, t', by have := HQ.out; omega, by go_num, rfl, HT.out, M⟩
    · obtain rfl : k = 8 := by omega
      clear hq lt
      have tl : (L t).length = 8 := by rw [L_len]; exact ht
      have okA : Hs.ok ⟨⟨a0, a1, a2, a3⟩, ⟨#[]⟩, 0⟩ = true := rfl
      have okB : Hs.ok ⟨⟨b0, b1, b2, b3⟩, ⟨#[]⟩, 0⟩ = true := rfl
      have KA := Lib.hid (write_yes _ okA t (by omega) (by show (0 : Int) + _ < _; omega))
      have KB := Lib.hid (write_yes _ okB t (by omega) (by show (0 : Int) + _ < _; omega))
      have wrE : ∀ v : V4, Hs.wr ⟨v, ⟨#[]⟩, 0⟩ t = ⟨take8 v (num (L t)), ⟨#[]⟩, 8⟩ := fun v => by
        unfold Hs.wr
        simp only [show L ⟨#[]⟩ = [] from rfl, List.nil_append, eights_one v tl, rest_one tl, ht]
        rfl
      rw [wrE] at KA KB
      have EI : Hid (take8 ⟨a0, a1, a2, a3⟩ (num (L t)) = take8 ⟨b0, b1, b2, b3⟩ (num (L t)) ↔ V4.mk a0 a1 a2 a3 = V4.mk b0 b1 b2 b3) := Lib.hid ⟨take8_inj, fun h => by rw [h]⟩
      generalize take8 ⟨a0, a1, a2, a3⟩ (num (L t)) = xv at *
      generalize take8 ⟨b0, b1, b2, b3⟩ (num (L t)) = yv at *
      obtain ⟨x0, x1, x2, x3⟩ := xv
      obtain ⟨y0, y1, y2, y3⟩ := yv
      clear wrE tl okA okB ht
      go_upto_region 7 with fail
      obtain ⟨c0, c1, c2, c3⟩ := M.bg.four
      obtain ⟨d0, d1, d2, d3⟩ := M.br.four
      have lg := M.bg.lt; have lr := M.br.lt
      go_cut [9, 10] (fun s9 s10 wx => ∃ bx by_, s9 = .pointer (some ⟨bx, 0, none⟩) ∧ s10 = .pointer (some ⟨by_, 0, none⟩) ∧ Box wx bx #[.int .u64 (I x0), .int .u64 (I x1), .int .u64 (I x2), .int .u64 (I x3), .string ⟨#[]⟩, .int .i64 8] ∧ Box wx by_ #[.int .u64 (I y0), .int .u64 (I y1), .int .u64 (I y2), .int .u64 (I y3), .string ⟨#[]⟩, .int .i64 8] ∧ Below wr.heap.size wr wx)
      case first =>
       go_region_held3 (fun w' => (w'.cell? ⟨g, 0, none⟩ = some (.int .u64 (I a0)) ∧ w'.cell? ⟨g, 1, none⟩ = some (.int .u64 (I a1)) ∧ w'.cell? ⟨g, 2, none⟩ = some (.int .u64 (I a2)) ∧ w'.cell? ⟨g, 3, none⟩ = some (.int .u64 (I a3))) ∧ w'.cell? ⟨r, 0, none⟩ = some (.int .u64 (I b0)) ∧ w'.cell? ⟨r, 1, none⟩ = some (.int .u64 (I b1)) ∧ w'.cell? ⟨r, 2, none⟩ = some (.int .u64 (I b2)) ∧ w'.cell? ⟨r, 3, none⟩ = some (.int .u64 (I b3)))
        ((refine ⟨⟨?_, ?_, ?_, ?_⟩, ?_, ?_, ?_, ?_⟩ <;> (repeat (first | with_reducible exact c0 | with_reducible exact c1 | with_reducible exact c2 | with_reducible exact c3 | with_reducible exact d0 | with_reducible exact d1 | with_reducible exact d2 | with_reducible exact d3 | with_reducible refine keep_drew ?_ | with_reducible refine keep_alloc ?_ _ | with_reducible refine keep_set ?_ _ (by first | omega | (simp only [World.size_alloc, World.size_drew]; omega)) | with_reducible refine keep_cell (by assumption) ?_))))
        (first
          | (go_at_call 12; (with_reducible refine (KA.out _).mono ?_); rintro e z1 ⟨rfl, h1⟩; (first | (have PP := nz2 h1; obtain ⟨P1, P2⟩ := PP) | (have P1 := nz1 h1) | skip); have q1 := h1.size; (try simp only [World.size_alloc, World.size_drew] at q1))
          | (go_at_call 12; (with_reducible refine (KB.out _).mono ?_); rintro e z2 ⟨rfl, h2⟩; (first | (have QQ := mz2 h2; obtain ⟨Q1, Q2⟩ := QQ) | (have Q1 := mz1 h2; have Q2 := (P1.alloc _).next h2) | (have Q1 := mz1 h2) | (have Q1 := P1.next h2; have Q2 := P2.next h2) | (have Q1 := P1.next h2) | skip); have q2 := h2.size; (try simp only [World.size_alloc, World.size_drew] at q2); (try (have is := Q1.six; obtain ⟨i0, i1, i2, i3, i4, i5⟩ := is; have i6 := Q1.melt 0; have i7 := Q1.melt 1; have i8 := Q1.melt 2; have i9 := Q1.melt 3; have i10 := Q1.melt 4; have i11 := Q1.melt 5; have i12 := Q1.lt; have i13 := Nat.lt_succ_of_lt Q1.lt)); (try (have js := Q2.six; obtain ⟨j0, j1, j2, j3, j4, j5⟩ := js; have j6 := Q2.melt 0; have j7 := Q2.melt 1; have j8 := Q2.melt 2; have j9 := Q2.melt 3; have j10 := Q2.melt 4; have j11 := Q2.melt 5; have j12 := Q2.lt; have j13 := Nat.lt_succ_of_lt Q2.lt))))
       all_goals go_wp2_with fail
       all_goals go_meet
       all_goals go_light
       all_goals refine ⟨_, _, rfl, rfl, ?_, ?_, ?_⟩
       all_goals (first | (with_reducible refine below_goal ?_; (repeat (first | with_reducible exact Below.refl _ _ | with_reducible exact (Below.refl _ _).drew | with_reducible refine below_al ?_ _ | with_reducible refine Below.drew ?_ | with_reducible refine below6 ?_ (by omega) _ _ _ _ _ _ | with_reducible refine below_step ?_ (by assumption))); done) | ((repeat (first | with_reducible exact Box.new _ _ _ | with_reducible exact new1 _ _ _ _ | with_reducible exact newS _ _ _ _ _ _ _ _ _ _ | with_reducible exact Q1 | with_reducible exact Q2 | with_reducible refine put6b ?_ _ _ _ _ _ _ | with_reducible refine far6b ?_ (by omega) _ _ _ _ _ _ | with_reducible refine Box.alloc ?_ _)); done))
      obtain ⟨bx, by_, rfl, rfl, BX, BY, BB⟩ := hcut
      replace M := M.next BB
      clear c0 c1 c2 c3 d0 d1 d2 d3 lg lr BB KA KB
      obtain ⟨c0, c1, c2, c3⟩ := M.bg.four
      obtain ⟨d0, d1, d2, d3⟩ := M.br.four
      obtain ⟨i0, i1, i2, i3, i4, i5⟩ := BX.six
      obtain ⟨j0, j1, j2, j3, j4, j5⟩ := BY.six
      obtain ⟨cc, hc⟩ : ∃ cc, Hid (cc = ((I a0 == I b0) && ((I a1 == I b1) && ((I a2 == I b2) && (I a3 == I b3))))) := ⟨_, Lib.hid rfl⟩
      have EJ : ((I x0 == I y0) && ((I x1 == I y1) && ((I x2 == I y2) && (I x3 == I y3)))) = cc := by
        rw [hc.out, Bool.eq_iff_iff, beq4, beq4]; exact EI.out
      have EJ := Lib.hid EJ
      have heq1 : ∀ W : World, (Op.equalIn 10000 29 (.agg #[.int .u64 (I x0), .int .u64 (I x1), .int .u64 (I x2), .int .u64 (I x3)]) (.agg #[.int .u64 (I y0), .int .u64 (I y1), .int .u64 (I y2), .int .u64 (I y3)])).run Try.prog W = .ok cc W := fun W => by
        have := eq4 9998 (I x0) (I x1) (I x2) (I x3) (I y0) (I y1) (I y2) (I y3) W
        rw [EJ.out] at this
        exact this
      have heq2 : ∀ W : World, (Op.equalIn 10000 29 (.agg #[.int .u64 (I a0), .int .u64 (I a1), .int .u64 (I a2), .int .u64 (I a3)]) (.agg #[.int .u64 (I b0), .int .u64 (I b1), .int .u64 (I b2), .int .u64 (I b3)])).run Try.prog W = .ok cc W := fun W => by
        have := eq4 9998 (I a0) (I a1) (I a2) (I a3) (I b0) (I b1) (I b2) (I b3) W
        rw [← hc.out] at this
        exact this
      go_upto_region 8 with fail
      go_region_held3 (fun w' => (w'.cell? ⟨g, 0, none⟩ = some (.int .u64 (I a0)) ∧ w'.cell? ⟨g, 1, none⟩ = some (.int .u64 (I a1)) ∧ w'.cell? ⟨g, 2, none⟩ = some (.int .u64 (I a2)) ∧ w'.cell? ⟨g, 3, none⟩ = some (.int .u64 (I a3))) ∧ (w'.cell? ⟨r, 0, none⟩ = some (.int .u64 (I b0)) ∧ w'.cell? ⟨r, 1, none⟩ = some (.int .u64 (I b1)) ∧ w'.cell? ⟨r, 2, none⟩ = some (.int .u64 (I b2)) ∧ w'.cell? ⟨r, 3, none⟩ = some (.int .u64 (I b3)))
          ∧ (w'.cell? ⟨bx, 0, none⟩ = some (.int .u64 (I x0)) ∧ w'.cell? ⟨bx, 1, none⟩ = some (.int .u64 (I x1)) ∧ w'.cell? ⟨bx, 2, none⟩ = some (.int .u64 (I x2)) ∧ w'.cell? ⟨bx, 3, none⟩ = some (.int .u64 (I x3)) ∧ w'.cell? ⟨bx, 4, none⟩ = some (.string ⟨#[]⟩) ∧ w'.cell? ⟨bx, 5, none⟩ = some (.int .i64 8))
          ∧ (w'.cell? ⟨by_, 0, none⟩ = some (.int .u64 (I y0)) ∧ w'.cell? ⟨by_, 1, none⟩ = some (.int .u64 (I y1)) ∧ w'.cell? ⟨by_, 2, none⟩ = some (.int .u64 (I y2)) ∧ w'.cell? ⟨by_, 3, none⟩ = some (.int .u64 (I y3))))
        ((refine ⟨⟨?_, ?_, ?_, ?_⟩, ⟨?_, ?_, ?_, ?_⟩, ⟨?_, ?_, ?_, ?_, ?_, ?_⟩, ?_, ?_, ?_, ?_⟩ <;> (repeat (first | with_reducible exact c0 | with_reducible exact c1 | with_reducible exact c2 | with_reducible exact c3 | with_reducible exact d0 | with_reducible exact d1 | with_reducible exact d2 | with_reducible exact d3 | with_reducible exact i0 | with_reducible exact i1 | with_reducible exact i2 | with_reducible exact i3 | with_reducible exact i4 | with_reducible exact i5 | with_reducible exact j0 | with_reducible exact j1 | with_reducible exact j2 | with_reducible exact j3 | with_reducible refine keep_drew ?_ | with_reducible refine keep_cell (by assumption) ?_))))
        (first
          | (go_at_call 8; refine (awake_any _).mono ?_; rintro e z9 ⟨rfl, hz9⟩))
      all_goals go_wp2_with fail
      all_goals go_light
      go_ret
      exact ⟨rfl, below_step M.drew.bl hz9⟩

set_option maxRecDepth 100000 in
theorem lifted (os : Os) (started : os.Started) (H : Type) (enc : TypeId × Value → H) :
    ReturnsInHanded {} Try.checked os 7 .any (Rows.sipBackSpec.pre6 enc Try.prog Try.f7 Rows.sipBackRow.domain false) (Rows.sipBackSpec.post enc Try.prog Try.f7 false true false false) := by
  refine returnsInHanded_of_change (C := Try.checked) own started (by kernel_rfl) Try.func7
    (ChangeSpec.witness6 (enc := enc) (C := Try.checked) false ⟨#[], #[.agg #[.int .u64 0, .int .u64 0, .int .u64 0, .int .u64 0], .agg #[.int .u64 0, .int .u64 0, .int .u64 0, .int .u64 0], .int .u64 0], []⟩ 8 (by kernel_rfl) (by kernel_rfl) (by kernel_rfl) (by kernel_rfl)) ?_
  intro W base args ds gs before hval0 hW hcnd _
  have hval : ∀ (j : Nat) t v, Try.f7.params[j]? = some t → args[j]? = some v → Value.okWide Try.prog W .any base t v := hval0
  have hW' := hW
  obtain ⟨p, q, hA0, hV, rfl, _, _⟩ := hW
  have hA : DataW.TrodAll enc Try.prog W 0 (fun _ => true) true Try.f7.params.toList args.toList ds p := hA0
  rw [Try.params7] at hA hval
  obtain ⟨v0, v1, v2, d0, d1, d2, p0, p1, p2, rfl, rfl, rfl, h0t, h1t, h2t⟩ := trodAll_three hA
  obtain ⟨rfl, rfl⟩ := trodVars_none hV
  obtain ⟨u0, rfl⟩ := open_v4 (hval 0 29 v0 rfl rfl) h0t
  obtain ⟨u1, rfl⟩ := open_v4 (hval 1 29 v1 rfl rfl) h1t
  obtain ⟨x2, rfl⟩ := open_word (hval 2 22 v2 rfl rfl) h2t
  clear hA0 hval0
  simp only [List.append_nil] at hW'
  have hlt : ∀ x ∈ p0 ++ p1 ++ p2, x.block < W.heap.size := fun x hx => by simpa using hW'.lt x (by simpa using hx)
  refine (walk u0 u1 x2 W).mono fun e W' ⟨he, hbl⟩ => ?_
  subst he
  refine ⟨_, rfl, post_args hW' (fun _ _ _ => trodAll_mk1 (shut_bool Try.underlying4 _)) ?_ (fun _ => rfl) hbl⟩
  have t0 := Below.trod laidOut readable_v4 typed_v4 h0t hbl (fun x hx => hlt x (List.mem_append_left _ (List.mem_append_left _ hx)))
  have t1 := Below.trod laidOut readable_v4 typed_v4 h1t hbl (fun x hx => hlt x (List.mem_append_left _ (List.mem_append_right _ hx)))
  have t2 := Below.trod laidOut readable_word typed_word h2t hbl (fun x hx => hlt x (List.mem_append_right _ hx))
  exact (List.append_assoc p0 p1 p2) ▸ trodAll_mk3 t0 t1 t2

theorem proved : Rows.SipBackSaid :=
  OpenClaim.holds_of_wide 7 Try.f7 rfl rfl rfl rfl rfl rfl rfl ⟨rfl, rfl, rfl, rfl, rfl⟩ rfl rfl rfl rfl rfl (by kernel_rfl) Try.func7 (by kernel_rfl)
    (of_decide_eq_true (by kernel_rfl)) (by unfold Func.isWrapper; first | (rw [if_pos (by decide +kernel)]; kernel_rfl) | (rw [if_neg (by decide +kernel)]; exact ⟨rfl, rfl⟩))
    (fun os started H enc _ => lifted os started H enc)
#print axioms proved
end Go.Proofs.Ytiombblclgkigaa.sipBack
