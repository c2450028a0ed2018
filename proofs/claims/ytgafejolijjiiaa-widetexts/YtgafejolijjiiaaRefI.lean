/- The walk of the document's answer: Text. -/
import Derived.Test.YtgafejolijjiiaaRefH
import Derived.Test.YtgafejolijjiiaaWalkI
namespace Go.Proofs.Ytgafejolijjiiaa
open Go.RowKit
set_option linter.unusedSimpArgs false
set_option linter.unusedVariables false

/-- A block of the call's own that may be written. -/
structure One (w : World) (m : Nat) (wx : World) : Prop where
  m0 : wx.cell? ⟨w.heap.size, 0, none⟩ = some (.int .u64 (hi m))
  m1 : wx.cell? ⟨w.heap.size, 1, none⟩ = some (.int .u64 (lo m))
  f0 : wx.frozen? ⟨w.heap.size, 0, none⟩ = false
  f1 : wx.frozen? ⟨w.heap.size, 1, none⟩ = false
  bl : Below w.heap.size w wx
theorem One.next {w : World} {m : Nat} {W w1 : World} (t : One w m W) (hb : Below W.heap.size W w1) : One w m w1 :=
  ⟨keep_cell hb t.m0, keep_cell hb t.m1, keep_melt hb t.m0 t.f0, keep_melt hb t.m1 t.f1, below_step t.bl hb⟩
theorem One.alloc {w : World} {m : Nat} {W : World} (t : One w m W) (o : Obj) : One w m (W.alloc o) := t.next ((Below.refl _ _).alloc (Nat.le_refl _) o)
theorem One.put {w : World} {m : Nat} {W : World} (t : One w m W) (q : Nat) : One w q ((W.setCell ⟨w.heap.size, 0, none⟩ (.int .u64 (hi q))).setCell ⟨w.heap.size, 1, none⟩ (.int .u64 (lo q))) := by
  have h0 := t.m0; have h1 := t.m1
  refine ⟨by simp [go_sem, h0, h1], by simp [go_sem, h0, h1], ?_, ?_, (t.bl.setCell (by simp) _).setCell (by simp) _⟩
  · rw [World.frozen?_setCell, World.frozen?_setCell]; exact t.f0
  · rw [World.frozen?_setCell, World.frozen?_setCell]; exact t.f1
theorem One.start (w : World) (n : Nat) : One w n (w.alloc (.cells #[.int .u64 (hi n), .int .u64 (lo n)] 24)) := by
  refine ⟨?_, ?_, ?_, ?_, (Below.refl _ _).alloc (Nat.le_refl _) _⟩ <;> simp [go_sem]

/-- At a round's head: the text of what is left, and what is written. -/
def TxRel (n : Nat) (w : World) (g : Nat) (s : Value) (wr : World) : Prop := ∃ (m : Nat) (t : List UInt8), s = .string ⟨t.toArray⟩ ∧ Fits m ∧ g ≤ 39 ∧ m < 10 ^ g ∧ t.length + g = 39 ∧
  (g = 39 ∧ m = n ∧ t = [] ∨ g < 39 ∧ m ≠ 0 ∧ text n = textF g m ++ t) ∧ One w m wr

theorem fits_div' {m : Nat} (h : Fits m) : Fits (m / 10) := by unfold Fits at *; omega
theorem cat_cons (c : UInt8) (t : List UInt8) : (⟨#[c]⟩ ++ ⟨t.toArray⟩ : ByteArray) = ⟨(c :: t).toArray⟩ := by
  apply ByteArray.ext
  rw [ByteArray.data_append]
  simp

set_option maxHeartbeats 2000000 in
set_option maxRecDepth 100000 in
/-- The document's Text. -/
theorem refText_any (n : Nat) (hn : Fits n) (w : World) : Calls Try.prog 27 #[U n] w fun e w' => e = .returned (.string ⟨(text n).toArray⟩) ∧ Below w.heap.size w w' := by
  obtain ⟨L, hL⟩ : ∃ L, text n = L := ⟨_, rfl⟩
  rw [hL]
  have HL := Lib.hid hL
  clear hL
  go_enter Try.func27, Try.ntmps27
  go_wp2_with fail
  have T0 := One.start w n
  have n39 : n < 10 ^ 39 := by unfold Fits at hn; omega
  go_loopg [3, 4, 5, 6] 39 (fun g s _ _ _ wr => TxRel n w g s wr)
  case atStart => exact ⟨n, [], rfl, hn, Nat.le_refl _, n39, rfl, Or.inl ⟨rfl, rfl, rfl⟩, T0⟩
  case round =>
    clear T0 n39 hn
    obtain ⟨m, t, rfl, hm, gl, h10, hl, hc, T⟩ := hrel
    have HM := Lib.hid hm; have H10 := Lib.hid h10; have HLt := Lib.hid hl; have HC := Lib.hid hc
    have hg : gk ≠ 0 := by
      rcases hc with h | h
      · omega
      · intro e; subst e; simp at h10; exact h.2.1 h10
    obtain ⟨j, rfl⟩ : ∃ j, gk = j + 1 := ⟨gk - 1, by omega⟩
    have NX : Hid (text n = textF j (m / 10) ++ (dig (m % 10) :: t)) := by
      rcases HC.out with ⟨h39, rfl, rfl⟩ | ⟨h39, h0, ht⟩
      · have : j = 38 := by omega
        subst this
        exact text_eq m
      · unfold Hid
        rw [ht, textF_succ h0, List.append_assoc]
        rfl
    have J39 : Hid (j < 39) := by unfold Hid; omega
    have FQ := Lib.hid (fits_div' HM.out)
    have QL := Lib.hid (div_lt_ten H10.out)
    have tl : ¬ 9223372036854775807 < 1 + t.length := by omega
    clear hm h10 hc gl hl hg
    have m0 := T.m0; have m1 := T.m1
    have ten : U 10 = .agg #[.int .u64 0, .int .u64 10] := by
      show Value.agg #[.int .u64 (hi 10), .int .u64 (lo 10)] = _
      rw [hi_small (by decide), lo_small (by decide)]; rfl
    have K0 := Lib.hid (refDiv_any m 10 HM.out (by unfold Fits; decide) (by decide))
    rw [ten] at K0
    clear ten
    go_upto_region 3 with (go_at_call 20; refine (K0.out _).mono ?_; rintro e w1 ⟨rfl, hb1⟩)
    have T1 := ((T.next hb1).alloc (.cells #[.int .u64 (hi (m / 10)), .int .u64 (lo (m / 10))] 24)).alloc (.cells #[.int .u64 (hi (m % 10)), .int .u64 (lo (m % 10))] 24)
    have q0 : ((w1.alloc (.cells #[.int .u64 (hi (m / 10)), .int .u64 (lo (m / 10))] 24)).alloc (.cells #[.int .u64 (hi (m % 10)), .int .u64 (lo (m % 10))] 24)).cell? ⟨w1.heap.size, 0, none⟩ = some (.int .u64 (hi (m / 10))) := by simp [go_sem, World.cell?_alloc_past]
    have q1 : ((w1.alloc (.cells #[.int .u64 (hi (m / 10)), .int .u64 (lo (m / 10))] 24)).alloc (.cells #[.int .u64 (hi (m % 10)), .int .u64 (lo (m % 10))] 24)).cell? ⟨w1.heap.size, 1, none⟩ = some (.int .u64 (lo (m / 10))) := by simp [go_sem, World.cell?_alloc_past]
    have r1 : ((w1.alloc (.cells #[.int .u64 (hi (m / 10)), .int .u64 (lo (m / 10))] 24)).alloc (.cells #[.int .u64 (hi (m % 10)), .int .u64 (lo (m % 10))] 24)).cell? ⟨w1.heap.size + 1, 1, none⟩ = some (.int .u64 (lo (m % 10))) := by simp [go_sem, World.cell?_alloc_past]
    have e9 : lo (m % 10) = ((m % 10 : Nat) : Int) := lo_small (by omega)
    generalize (w1.alloc (.cells #[.int .u64 (hi (m / 10)), .int .u64 (lo (m / 10))] 24)).alloc (.cells #[.int .u64 (hi (m % 10)), .int .u64 (lo (m % 10))] 24) = W2 at *
    generalize w1.heap.size = g1 at *
    rw [e9] at r1
    have d9 : ((m % 10 : Nat) : Int) ≤ 9 := by omega
    have dn : (0 : Int) ≤ ((m % 10 : Nat) : Int) := by omega
    have D : Hid (m % 10 < 10) := Nat.mod_lt m (by decide)
    clear hb1 m0 m1 T e9 H10 HC HM
    generalize m % 10 = d at *
    generalize m / 10 = q at *
    have hconv : (convert 56 9 (.slice (some ⟨W2.heap.size, 0, none⟩) 1 1)).run Try.prog (W2.alloc (.cells #[.int .u8 (48 + (d : Int))] 5)) = .ok (.string ⟨[dig d].toArray⟩) (W2.alloc (.cells #[.int .u8 (48 + (d : Int))] 5)) := by
      refine run_convert_bytes_back _ 56 9 5 ⟨W2.heap.size, 0, none⟩ _ [dig d] Try.underlying56 Try.underlying5 Try.underlying9 ?_
      intro j hj
      have j0 : j = 0 := by simpa using hj
      subst j0
      have ha : (⟨W2.heap.size, 0, none⟩ : Addr).add 0 = ⟨W2.heap.size, 0, none⟩ := by unfold Addr.add; split <;> simp_all
      rw [ha]
      have := dig_toNat D.out
      simp only [List.getElem_cons_zero]
      rw [this]
      simp [go_sem]
    have g2 : g1 < W2.heap.size := cell_lt q0
    go_upto_region 4 with fail
    rw [cat_cons]
    have T2 := T1.alloc (.cells #[.int .u8 (48 + (d : Int))] 5)
    have p0 := keep_alloc q0 (.cells #[.int .u8 (48 + (d : Int))] 5)
    have p1 := keep_alloc q1 (.cells #[.int .u8 (48 + (d : Int))] 5)
    clear T1 q0 q1 r1 hconv
    generalize W2.alloc (.cells #[.int .u8 (48 + (d : Int))] 5) = W3 at *
    have m0 := T2.m0; have m1 := T2.m1; have f0 := T2.f0; have f1 := T2.f1
    by_cases z : q = 0
    · subst z
      have hz := hi_zero; have lz := lo_zero
      rw [hz] at p0
      rw [lz] at p1
      have E : Hid (dig d :: t = L) := by unfold Hid; rw [← HL.out, NX.out, textF_zero]; rfl
      go_wp2_with fail
      rw [E.out]
      go_ret
      exact ⟨rfl, T2.bl⟩
    · go_upto_region 4 with fail
      go_cut [24] (fun s24 wx => s24 = .bool false ∧ wx = W3)
      case first =>
        by_cases hh : hi q = 0
        · have h1 : (hi q == 0) = true := by simpa using hh
          have h2 : (lo q == 0) = false := by
            simp; intro e; exact z (eq_of_words (by rw [hh, hi_zero]) (by rw [e, lo_zero]))
          clear hh z
          go_wp2_with fail
          go_meet
          exact ⟨rfl, rfl⟩
        · have h1 : (hi q == 0) = false := by simpa using hh
          clear hh z
          go_wp2_with fail
          go_meet
          exact ⟨rfl, rfl⟩
      case rest =>
        obtain ⟨rfl, rfl⟩ := hcut
        go_wp2_with fail
        go_roundg j
        case measure => omega
        case rel =>
          go_light
          exact ⟨q, dig d :: t, rfl, FQ.out, by have := J39.out; omega, QL.out, by have := HLt.out; simp; omega, Or.inr ⟨J39.out, z, NX.out⟩, T2.put q⟩
end Go.Proofs.Ytgafejolijjiiaa
