/- The walk of math/bits.Div64. -/
import Derived.Test.YtnacokogihanoaaDoorWWalkA
import Derived.Test.YtnacokogihanoaaDoorWMathD
import Derived.Test.YtnacokogihanoaaDoorWMathE
import Derived.Deep.RegionWith
import Derived.Deep.DeepCutAuto
import Derived.Deep.DeepFit
import Derived.Deep.LoopGhost
import Derived.Deep.CutBlock
import Derived.BigQuiet
import Derived.Deep.Light
import Derived.Laws.Bits64b
namespace Go.Proofs.YtnacokogihanoaaDoor.Wd
open Go.RowKit
set_option linter.unusedSimpArgs false
set_option linter.unusedVariables false

/-- What the slots hold behind the head. -/
def DivRel (h l y : Nat) (w : World) (s2 s8 s9 s10 s11 s12 s13 s14 : Value) (wx : World) : Prop := ∃ s Y u t : Nat, s ≤ 63 ∧ Hid (s = lead y) ∧ Hid (Y = y * 2 ^ s) ∧ 9223372036854775808 ≤ Y ∧ Y < 18446744073709551616 ∧ u < Y ∧ t < 18446744073709551616 ∧
  Hid (u * 18446744073709551616 + t = (h * 18446744073709551616 + l) * 2 ^ s) ∧
  s2 = .int .u64 (Y : Int) ∧ s8 = .int .u64 (s : Int) ∧ s9 = .int .u64 ((Y / 4294967296 : Nat) : Int) ∧ s10 = .int .u64 ((Y % 4294967296 : Nat) : Int) ∧ s11 = .int .u64 (u : Int) ∧ s12 = .int .u64 (t : Int) ∧ s13 = .int .u64 ((t / 4294967296 : Nat) : Int) ∧ s14 = .int .u64 ((t % 4294967296 : Nat) : Int) ∧ wx = w

theorem wrap_nat {n : Nat} (h : n < 18446744073709551616) : IntKind.u64.wrap (n : Int) = (n : Int) := by rw [IntKind.wrap_u64]; omega
theorem wrap_mul (x s : Nat) : IntKind.u64.wrap ((x : Int) * 2 ^ s) = ((x * 2 ^ s % 18446744073709551616 : Nat) : Int) := by
  rw [IntKind.wrap_u64, Int.natCast_emod, Int.natCast_mul, Int.natCast_pow]; rfl
theorem low_bits (a : Nat) (ha : a < 18446744073709551616) : bits .and .u64 (a : Int) 4294967295 = ((a % 4294967296 : Nat) : Int) := by
  have h := bits_and_u64_nat a 4294967295 ha (by omega)
  have e : a &&& 4294967295 = a % 4294967296 := Nat.and_two_pow_sub_one_eq_mod a 32
  rw [e] at h
  exact h
theorem high_part (l k : Nat) : (l : Int) / 2 ^ k = ((l / 2 ^ k : Nat) : Int) := by rw [Int.natCast_ediv, Int.natCast_pow]; rfl
theorem divRel_mk (h l y : Nat) (w : World) (y1 : y < 18446744073709551616) (l1 : l < 18446744073709551616) (hlt : h < y) (yn : y ≠ 0) :
    DivRel h l y w (Value.int IntKind.u64 (IntKind.u64.wrap (↑y * 2 ^ lead y))) (Value.int IntKind.u64 ↑(lead y))
    (Value.int IntKind.u64 (IntKind.u64.wrap (↑y * 2 ^ lead y) / 4294967296))
    (Value.int IntKind.u64 (bits BinOp.and IntKind.u64 (IntKind.u64.wrap (↑y * 2 ^ lead y)) 4294967295))
    (Value.int IntKind.u64 (bits BinOp.or IntKind.u64 (IntKind.u64.wrap (↑h * 2 ^ lead y)) (↑l / 2 ^ (64 - lead y))))
    (Value.int IntKind.u64 (IntKind.u64.wrap (↑l * 2 ^ lead y)))
    (Value.int IntKind.u64 (IntKind.u64.wrap (↑l * 2 ^ lead y) / 4294967296))
    (Value.int IntKind.u64 (bits BinOp.and IntKind.u64 (IntKind.u64.wrap (↑l * 2 ^ lead y)) 4294967295)) w := by
  have a1 := lead_le y yn y1
  have a2 := lead_low y yn y1
  have a3 := lead_high y yn y1
  have m1 := moved l (lead y) (by omega) l1
  have m2 := moved_sum h l (lead y) (by omega) l1
  have m3 := moved_lt h l y (lead y) (by omega) l1 hlt
  have o := or_add h (l / 2 ^ (64 - lead y)) (lead y) m1.1
  have hh : h * 2 ^ lead y < 18446744073709551616 := by omega
  have tl : l * 2 ^ lead y % 18446744073709551616 < 18446744073709551616 := Nat.mod_lt _ (by decide)
  refine ⟨lead y, y * 2 ^ lead y, h * 2 ^ lead y + l / 2 ^ (64 - lead y), l * 2 ^ lead y % 18446744073709551616, a1, rfl, rfl, a2, a3, m3, tl, m2, ?_, rfl, ?_, ?_, ?_, ?_, ?_, ?_, rfl⟩
  · rw [wrap_mul, Nat.mod_eq_of_lt a3]
  · rw [wrap_mul, Nat.mod_eq_of_lt a3]; congr 1
  · rw [wrap_mul, Nat.mod_eq_of_lt a3, low_bits _ a3]
  · rw [wrap_mul, Nat.mod_eq_of_lt hh, high_part, bits_or_u64_nat _ _ hh (by omega), o]
  · rw [wrap_mul]
  · rw [wrap_mul]; congr 1
  · rw [wrap_mul, low_bits _ tl]

/-- What the guess is ahead of the loop. -/
def HeadRel (Y u a : Nat) (w : World) (s15 s16 : Value) (wx : World) : Prop := ∃ q r : Nat, q ≤ 4294967297 ∧ r < 4294967296 ∧ Hid (Guess Y u a q r) ∧ s15 = .int .u64 (q : Int) ∧ s16 = .int .u64 (r : Int) ∧ wx = w
/-- What it is behind it. -/
def TailRel (Y u a : Nat) (w : World) (s15 : Value) (wx : World) : Prop := ∃ q : Nat, q < 4294967296 ∧ Hid (q = (u * 4294967296 + a) / Y) ∧ s15 = .int .u64 (q : Int) ∧ wx = w

theorem headRel_mk (Y u a d : Nat) (w : World) (hY : 9223372036854775808 ≤ Y) (hY' : Y < 18446744073709551616) (hu : u < Y) (ha : a < 4294967296) (hd : Y / 4294967296 = d) :
    HeadRel Y u a w (.int .u64 (IntKind.u64.wrap ((u : Int) / (d : Int)))) (.int .u64 (IntKind.u64.wrap ((u : Int) - IntKind.u64.wrap (IntKind.u64.wrap ((u : Int) / (d : Int)) * (d : Int))))) w := by
  have g := Guess.first hY hu ha hY'
  rw [hd] at g
  have e1 : (u : Int) / (d : Int) = ((u / d : Nat) : Int) := (Int.natCast_ediv u d).symm
  have hq := g.high
  have hs := Nat.div_add_mod' u d
  have e2 : ((u / d : Nat) : Int) * (d : Int) = ((u / d * d : Nat) : Int) := (Int.natCast_mul _ _).symm
  have hr : u % d < d := Nat.mod_lt _ (by omega)
  refine ⟨u / d, u % d, hq, by omega, by rw [hd] at *; exact g, ?_, ?_, rfl⟩
  · rw [e1, wrap_nat (by omega)]
  · rw [e1, wrap_nat (n := u / d) (by omega), e2, wrap_nat (n := u / d * d) (by omega), IntKind.wrap_u64]
    congr 1
    omega

theorem tail_past {Y u a d q r : Nat} {w : World} (hY : 9223372036854775808 ≤ Y) (hY' : Y < 18446744073709551616) (hu : u < Y) (ha : a < 4294967296) (hd : Y / 4294967296 = d) (g : Guess Y u a q r) (lt : (u * 4294967296 + a) / Y < q) (t2 : 4294967296 ≤ r + d) (h1 : 1 ≤ q) :
    TailRel Y u a w (.int .u64 ((q : Int) - 1)) w := by
  obtain ⟨p, rfl⟩ : ∃ p, q = p + 1 := ⟨q - 1, by omega⟩
  have g2 := g.less lt
  have hit := g2.past hY (by rw [hd]; exact t2)
  have : (u * 4294967296 + a) / Y < 4294967296 := (Nat.div_lt_iff_lt_mul (by omega)).2 (by omega)
  refine ⟨p, by omega, hit, ?_, rfl⟩
  congr 1
  omega
theorem head_less {Y u a d q r : Nat} {w : World} (hd : Y / 4294967296 = d) (g : Guess Y u a q r) (lt : (u * 4294967296 + a) / Y < q) (t2 : r + d < 4294967296) (h1 : q ≤ 4294967297) :
    ∃ r' : Nat, q - 1 ≤ 4294967297 ∧ r' < 4294967296 ∧ Hid (Guess Y u a (q - 1) r') ∧ Value.int .u64 ((q : Int) - 1) = .int .u64 ((q - 1 : Nat) : Int) ∧ Value.int .u64 ((r : Int) + (d : Int)) = .int .u64 (r' : Int) ∧ w = w := by
  have h0 : 0 < q := Nat.lt_of_le_of_lt (Nat.zero_le _) lt
  obtain ⟨p, rfl⟩ : ∃ p, q = p + 1 := ⟨q - 1, by omega⟩
  have g2 := g.less lt
  rw [hd] at g2
  refine ⟨r + d, by omega, t2, g2, ?_, ?_, rfl⟩
  · congr 1; omega
  · congr 1

theorem rest_mod {Y u a q : Nat} (hp : 0 < Y) (hY' : Y < 18446744073709551616) (h : q = (u * 4294967296 + a) / Y) :
    IntKind.u64.wrap (IntKind.u64.wrap (IntKind.u64.wrap ((u : Int) * 4294967296) + (a : Int)) - IntKind.u64.wrap ((q : Int) * (Y : Int))) = (((u * 4294967296 + a) % Y : Nat) : Int) := by
  have e := Nat.div_add_mod' (u * 4294967296 + a) Y
  have l := Nat.mod_lt (u * 4294967296 + a) hp
  rw [← h] at e
  have e2 : (q : Int) * (Y : Int) = ((q * Y : Nat) : Int) := (Int.natCast_mul _ _).symm
  rw [e2]
  generalize q * Y = p at *
  generalize (u * 4294967296 + a) % Y = r at *
  simp only [IntKind.wrap_u64]
  omega

set_option maxHeartbeats 1000000 in
set_option maxRecDepth 100000 in
theorem div64_great (h l y : Nat) (l1 : l < 18446744073709551616) (y1 : y < 18446744073709551616) (hlt : h < y) (h0 : ((h : Int) == 0) = false) (w : World) :
    Calls Tryd.prog 97 #[.int .u64 h, .int .u64 l, .int .u64 y] w fun e w' => e = .returned (.tuple #[.int .u64 (((h * 18446744073709551616 + l) / y : Nat) : Int), .int .u64 (((h * 18446744073709551616 + l) % y : Nat) : Int)]) ∧ w = w' := by
  have yn : y ≠ 0 := by omega
  have y0 : ((y : Int) == 0) = false := by simpa using yn
  have yl : ¬ ((y : Int) ≤ (h : Int)) := by omega
  have LC := Lib.hid (lead_cast y yn y1)
  have ll := lead_le y yn y1
  have L1 := Lib.hid (lead_low y yn y1)
  have L2 := Lib.hid (lead_high y yn y1)
  have Y1 := Lib.hid y1; have LL := Lib.hid l1; have HL := Lib.hid hlt
  have yq : (0 : Int) ≤ y := by omega
  have yr : Hid ((y : Int) ≤ 18446744073709551615) := by unfold Hid; omega
  clear yn y1 l1 hlt
  go_enter Tryd.func97, Tryd.ntmps97
  go_upto_region 14 with (go_at_call 110; refine (Tryd.bits_LeadingZeros64 _ _ (by assumption) yr.out).mono ?_; rintro e w' ⟨rfl, hw⟩; rw [hw, Int.toNat_natCast, LC.out]; clear hw)
  go_cut [2, 8, 9, 10, 11, 12, 13, 14] (fun s2 s8 s9 s10 s11 s12 s13 s14 wx => DivRel h l y w s2 s8 s9 s10 s11 s12 s13 s14 wx)
  case first =>
    go_wp2_with fail
    go_meet
    go_light
    exact divRel_mk h l y w Y1.out LL.out HL.out (by have := HL.out; omega)
  case rest =>
    obtain ⟨s, Y, u, t, hs, Hs, HY, yl, yh, hu, ht, HU, rfl, rfl, rfl, rfl, rfl, rfl, rfl, rfl, rfl⟩ := hcut
    obtain ⟨d, hd⟩ : ∃ d, Y / 4294967296 = d := ⟨_, rfl⟩
    obtain ⟨e, he⟩ : ∃ e, Y % 4294967296 = e := ⟨_, rfl⟩
    obtain ⟨a, ha⟩ : ∃ a, t / 4294967296 = a := ⟨_, rfl⟩
    obtain ⟨b, hb⟩ : ∃ b, t % 4294967296 = b := ⟨_, rfl⟩
    rw [hd, he, ha, hb]
    have d1 : 2147483648 ≤ d := by omega
    have d2 : d < 4294967296 := by omega
    have e2 : e < 4294967296 := by omega
    have a2 : a < 4294967296 := by omega
    have b2 : b < 4294967296 := by omega
    have HD := Lib.hid hd; have HE := Lib.hid he; have HA := Lib.hid ha; have HBb := Lib.hid hb
    have YL := Lib.hid yl; have YH := Lib.hid yh; have HUU := Lib.hid hu; have HT := Lib.hid ht
    have d0 : ((d : Int) == 0) = false := by simp; omega
    clear hd he ha hb yl yh hu ht
    go_upto_region 16 with fail
    go_cut [15, 16] (fun s15 s16 wx => HeadRel Y u a wc s15 s16 wx)
    case first =>
      go_wp2_with fail
      go_meet
      go_light
      exact headRel_mk Y u a d wc YL.out YH.out HUU.out a2 HD.out
    case rest =>
      obtain ⟨q, r, hq, hr, G, rfl, rfl, rfl⟩ := hcut
      go_upto_block 0 with fail
      go_cut [15, 16] (fun s15 _ wx => TailRel Y u a wc s15 wx)
      case first =>
        go_wp2_with fail
        go_loopg [15, 16] q (fun k s15 s16 wr => ∃ r : Nat, k ≤ 4294967297 ∧ r < 4294967296 ∧ Hid (Guess Y u a k r) ∧ s15 = .int .u64 (k : Int) ∧ s16 = .int .u64 (r : Int) ∧ wr = wc)
        case atStart => exact ⟨r, hq, hr, G, rfl, rfl, rfl⟩
        case round =>
          clear G hq hr q r
          obtain ⟨r, hq, hr, G, rfl, rfl, rfl⟩ := hrel
          have gk1 : (gk : Int) < 18446744073709551616 := by omega
          have gk2 : (r : Int) + (d : Int) < 18446744073709551616 := by omega
          by_cases t1 : 4294967296 ≤ gk
          · have lt := Lib.hid (Guess.over YL.out a2 t1 HUU.out)
            have t1' : (4294967296 : Int) ≤ (gk : Int) := by omega
            by_cases t2 : 4294967296 ≤ r + d
            · have t2' : (4294967296 : Int) ≤ (r : Int) + (d : Int) := by omega
              go_wp2_with fail
              go_meet
              go_light
              exact tail_past YL.out YH.out HUU.out a2 HD.out G.out lt.out t2 (by omega)
            · have t2' : ¬ (4294967296 : Int) ≤ (r : Int) + (d : Int) := by omega
              go_wp2_with fail
              go_roundg (gk - 1)
              case measure => omega
              case rel =>
                go_light
                exact head_less HD.out G.out lt.out (by omega) hq
          · have t1' : ¬ (4294967296 : Int) ≤ (gk : Int) := by omega
            obtain ⟨m, hm⟩ : ∃ m : Nat, gk * e = m := ⟨_, rfl⟩
            have hm1 : (gk : Int) * (e : Int) = (m : Int) := by rw [← hm]; exact (Int.natCast_mul _ _).symm
            have hm2 : m < 18446744073709551616 := by
              have := Nat.mul_le_mul (show gk ≤ 4294967295 by omega) (show e ≤ 4294967295 by omega)
              omega
            have HM := Lib.hid hm
            clear hm
            by_cases t3 : 4294967296 * r + a < m
            · have lt := Lib.hid (G.out.more YL.out (by rw [HE.out, HM.out]; exact t3))
              have t3' : (4294967296 : Int) * (r : Int) + (a : Int) < (m : Int) := by omega
              have t4 : (4294967296 : Int) * (r : Int) + (a : Int) < 18446744073709551616 := by omega
              have t5 : (4294967296 : Int) * (r : Int) < 18446744073709551616 := by omega
              have t6 : 0 < gk := Nat.lt_of_le_of_lt (Nat.zero_le _) lt.out
              have t7 : 1 ≤ (gk : Int) := by omega
              clear t6
              by_cases t2 : 4294967296 ≤ r + d
              · have t2' : (4294967296 : Int) ≤ (r : Int) + (d : Int) := by omega
                go_wp2_with fail
                go_meet
                go_light
                exact tail_past YL.out YH.out HUU.out a2 HD.out G.out lt.out t2 (by omega)
              · have t2' : ¬ (4294967296 : Int) ≤ (r : Int) + (d : Int) := by omega
                go_wp2_with fail
                go_roundg (gk - 1)
                case measure => omega
                case rel =>
                  go_light
                  exact head_less HD.out G.out lt.out (by omega) hq
            · have eq := Lib.hid (G.out.hit YL.out (by rw [HE.out, HM.out]; omega))
              have t3' : ¬ (4294967296 : Int) * (r : Int) + (a : Int) < (m : Int) := by omega
              have t4 : (4294967296 : Int) * (r : Int) + (a : Int) < 18446744073709551616 := by omega
              have t5 : (4294967296 : Int) * (r : Int) < 18446744073709551616 := by omega
              go_wp2_with fail
              go_meet
              go_light
              exact ⟨gk, by omega, eq, rfl, rfl⟩
      case rest =>
        obtain ⟨q1, hq1, Q1, rfl, rfl⟩ := hcut
        clear G hq hr q r
        go_upto_region 21 with fail
        go_cut [17] (fun s17 wx => ∃ v : Nat, v < 18446744073709551616 ∧ Hid (v < Y) ∧ Hid (v = (u * 4294967296 + a) % Y) ∧ s17 = .int .u64 (v : Int) ∧ wx = wc)
        case first =>
          go_wp2_with fail
          go_meet
          go_light
          have p0 : 0 < Y := by have := YL.out; omega
          refine ⟨(u * 4294967296 + a) % Y, by have := YH.out; have := Nat.mod_lt (u * 4294967296 + a) p0; omega, Nat.mod_lt _ p0, rfl, ?_, rfl⟩
          rw [rest_mod p0 YH.out Q1.out]
        case rest =>
          obtain ⟨v, hv, HV, V1, rfl, rfl⟩ := hcut
          go_upto_region 23 with fail
          go_cut [18, 16] (fun s18 s16 wx => HeadRel Y v b wc s18 s16 wx)
          case first =>
            go_wp2_with fail
            go_meet
            go_light
            exact headRel_mk Y v b d wc YL.out YH.out HV.out b2 HD.out
          case rest =>
            obtain ⟨q, r, hq, hr, G, rfl, rfl, rfl⟩ := hcut
            go_upto_block 2 with fail
            go_cut [18, 16] (fun s18 _ wx => TailRel Y v b wc s18 wx)
            case first =>
              go_wp2_with fail
              go_loopg [18, 16] q (fun k s18 s16 wr => ∃ r : Nat, k ≤ 4294967297 ∧ r < 4294967296 ∧ Hid (Guess Y v b k r) ∧ s18 = .int .u64 (k : Int) ∧ s16 = .int .u64 (r : Int) ∧ wr = wc)
              case atStart => exact ⟨r, hq, hr, G, rfl, rfl, rfl⟩
              case round =>
                clear G hq hr q r
                obtain ⟨r, hq, hr, G, rfl, rfl, rfl⟩ := hrel
                have gk1 : (gk : Int) < 18446744073709551616 := by omega
                have gk2 : (r : Int) + (d : Int) < 18446744073709551616 := by omega
                by_cases t1 : 4294967296 ≤ gk
                · have lt := Lib.hid (Guess.over YL.out b2 t1 HV.out)
                  have t1' : (4294967296 : Int) ≤ (gk : Int) := by omega
                  by_cases t2 : 4294967296 ≤ r + d
                  · have t2' : (4294967296 : Int) ≤ (r : Int) + (d : Int) := by omega
                    go_wp2_with fail
                    go_meet
                    go_light
                    exact tail_past YL.out YH.out HV.out b2 HD.out G.out lt.out t2 (by omega)
                  · have t2' : ¬ (4294967296 : Int) ≤ (r : Int) + (d : Int) := by omega
                    go_wp2_with fail
                    go_roundg (gk - 1)
                    case measure => omega
                    case rel =>
                      go_light
                      exact head_less HD.out G.out lt.out (by omega) hq
                · have t1' : ¬ (4294967296 : Int) ≤ (gk : Int) := by omega
                  obtain ⟨m, hm⟩ : ∃ m : Nat, gk * e = m := ⟨_, rfl⟩
                  have hm1 : (gk : Int) * (e : Int) = (m : Int) := by rw [← hm]; exact (Int.natCast_mul _ _).symm
                  have hm2 : m < 18446744073709551616 := by
                    have := Nat.mul_le_mul (show gk ≤ 4294967295 by omega) (show e ≤ 4294967295 by omega)
                    omega
                  have HM := Lib.hid hm
                  clear hm
                  by_cases t3 : 4294967296 * r + b < m
                  · have lt := Lib.hid (G.out.more YL.out (by rw [HE.out, HM.out]; exact t3))
                    have t3' : (4294967296 : Int) * (r : Int) + (b : Int) < (m : Int) := by omega
                    have t4 : (4294967296 : Int) * (r : Int) + (b : Int) < 18446744073709551616 := by omega
                    have t5 : (4294967296 : Int) * (r : Int) < 18446744073709551616 := by omega
                    have t6 : 0 < gk := Nat.lt_of_le_of_lt (Nat.zero_le _) lt.out
                    have t7 : 1 ≤ (gk : Int) := by omega
                    clear t6
                    by_cases t2 : 4294967296 ≤ r + d
                    · have t2' : (4294967296 : Int) ≤ (r : Int) + (d : Int) := by omega
                      go_wp2_with fail
                      go_meet
                      go_light
                      exact tail_past YL.out YH.out HV.out b2 HD.out G.out lt.out t2 (by omega)
                    · have t2' : ¬ (4294967296 : Int) ≤ (r : Int) + (d : Int) := by omega
                      go_wp2_with fail
                      go_roundg (gk - 1)
                      case measure => omega
                      case rel =>
                        go_light
                        exact head_less HD.out G.out lt.out (by omega) hq
                  · have eq := Lib.hid (G.out.hit YL.out (by rw [HE.out, HM.out]; omega))
                    have t3' : ¬ (4294967296 : Int) * (r : Int) + (b : Int) < (m : Int) := by omega
                    have t4 : (4294967296 : Int) * (r : Int) + (b : Int) < 18446744073709551616 := by omega
                    have t5 : (4294967296 : Int) * (r : Int) < 18446744073709551616 := by omega
                    go_wp2_with fail
                    go_meet
                    go_light
                    exact ⟨gk, by omega, eq, rfl, rfl⟩
            case rest =>
              obtain ⟨q0, hq0, Q0, rfl, rfl⟩ := hcut
              clear G hq hr q r
              have p0 : 0 < Y := by have := YL.out; omega
              have TD := two_digits (Nat.pow_pos (by decide) : 0 < 2 ^ s) (by have := HL.out; omega) HY.out (by rw [← HA.out, ← HBb.out, Nat.div_add_mod' t 4294967296]; exact HU.out) Q1.out V1.out Q0.out
              have R1 : Hid ((q1 : Int) * 4294967296 + (q0 : Int) = (((h * 18446744073709551616 + l) / y : Nat) : Int)) := by
                unfold Hid; rw [← TD.1]; omega
              have R2 : Hid (IntKind.u64.wrap (IntKind.u64.wrap (IntKind.u64.wrap ((v : Int) * 4294967296) + (b : Int)) - IntKind.u64.wrap ((q0 : Int) * (Y : Int))) / 2 ^ s = (((h * 18446744073709551616 + l) % y : Nat) : Int)) := by
                unfold Hid; rw [rest_mod p0 YH.out Q0.out, ← TD.2, high_part]
              clear TD p0
              go_wp2_with fail
              rw [R1.out, R2.out]
              go_ret2
              exact ⟨rfl, rfl⟩

set_option maxHeartbeats 1000000 in
set_option maxRecDepth 100000 in
theorem div64_small (l y : Nat) (l1 : l < 18446744073709551616) (hy : 0 < y) (w : World) :
    Calls Tryd.prog 97 #[.int .u64 0, .int .u64 l, .int .u64 y] w fun e w' => e = .returned (.tuple #[.int .u64 ((l / y : Nat) : Int), .int .u64 ((l % y : Nat) : Int)]) ∧ ∃ n, w' = w.drewN n := by
  have y0 : ((y : Int) == 0) = false := by simp; omega
  have yl : ¬ ((y : Int) ≤ 0) := by omega
  have R1 : Hid (IntKind.u64.wrap ((l : Int) / (y : Int)) = ((l / y : Nat) : Int)) := by
    unfold Hid; rw [← Int.natCast_ediv]; exact wrap_nat (by have := Nat.div_le_self l y; omega)
  have R2 : Hid ((l : Int) % (y : Int) = ((l % y : Nat) : Int)) := by
    unfold Hid; rw [← Int.natCast_emod]
  go_enter Tryd.func97, Tryd.ntmps97
  go_wp2_with fail
  go_quiet (fail)
  go_wp2_with fail
  rw [R1.out, R2.out]
  go_ret2
  exact ⟨rfl, nq, rfl⟩

/-- math/bits.Div64, where the quotient fits. -/
theorem div64_any (h l y : Int) (wh : Word h) (wl : Word l) (wy : Word y) (hlt : h < y) (w : World) :
    Calls Tryd.prog 97 #[.int .u64 h, .int .u64 l, .int .u64 y] w fun e w' => e = .returned (.tuple #[.int .u64 (((h.toNat * 18446744073709551616 + l.toNat) / y.toNat : Nat) : Int), .int .u64 (((h.toNat * 18446744073709551616 + l.toNat) % y.toNat : Nat) : Int)]) ∧ ∃ n, w' = w.drewN n := by
  have h1 := wh.nn; have l1 := wl.nn; have y1 := wy.nn; have l2 := wl.lt; have y2 := wy.lt
  obtain ⟨h, rfl⟩ := Int.eq_ofNat_of_zero_le h1
  obtain ⟨l, rfl⟩ := Int.eq_ofNat_of_zero_le l1
  obtain ⟨y, rfl⟩ := Int.eq_ofNat_of_zero_le y1
  rw [Int.toNat_natCast, Int.toNat_natCast, Int.toNat_natCast]
  by_cases h0 : h = 0
  · subst h0
    rw [Nat.zero_mul, Nat.zero_add]
    exact div64_small l y (by omega) (by omega) w
  · exact (div64_great h l y (by omega) (by omega) (by omega) (by simpa using h0) w).mono fun _ _ ⟨he, hw⟩ => ⟨he, 0, hw.symm⟩
end Go.Proofs.YtnacokogihanoaaDoor.Wd
