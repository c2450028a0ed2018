/- The walks of withDigits, trimRightByte, TrimRight. -/
import Derived.Test.YtnacokogihanoaaDoorWalkN
import Derived.Test.YtnacokogihanoaaDoorNumT
import Derived.Maps.AppendAt
namespace Go.Proofs.YtnacokogihanoaaDoor
open Go.RowKit
set_option linter.unusedVariables false
set_option linter.unusedSimpArgs false

/-- A byte. -/
abbrev bv (b : UInt8) : Value := .int .u8 (b.toNat : Int)
theorem info_u8 : (Tryd.prog.info? 5).map (fun i => (i.zero, i.size, i.bytes)) = some (some (.int .u8 0), 1, 1) := by kernel_rfl
/-- What is in the loop of withDigits. -/
structure Wdg (w : World) (base : Nat) (v : Value) (n : Nat) (bs : List UInt8) (x k : Nat) (v' : Value) (wr : World) : Prop where
  own : wr.ownsRow base 5 1 v' (n + k) ((bs ++ (pads k x).map dig).map bv)
  gr : w.grownBy wr v.ownBlock
  lies : v'.ownBlock = v.ownBlock ∨ ∃ b, v'.ownBlock = some b ∧ w.heap.size ≤ b
theorem Wdg.step {w : World} {base : Nat} {v : Value} {n : Nat} {bs : List UInt8} {x k : Nat} {v1 v2 : Value} {wr w2 : World} {o : Obj} (h : Wdg w base v n bs x k v1 wr)
    (hown : w2.ownsRow base 5 1 v2 (n + k + 1) ((bs ++ (pads k x).map dig).map bv ++ [bv (dig (x / 10 ^ k % 10))])) (hg : (wr.alloc o).grownBy w2 v1.ownBlock)
    (hl : v2.ownBlock = v1.ownBlock ∨ v2.ownBlock = some (wr.heap.size + 1)) : Wdg w base v n bs x (k + 1) v2 w2 := by
  have sz := h.gr.size
  refine ⟨?_, ?_, ?_⟩
  · rw [pads_snoc]
    have e : n + (k + 1) = n + k + 1 := by omega
    rw [e]
    simpa using hown
  · refine ⟨hg.os.trans h.gr.os, hg.tape.trans h.gr.tape, hg.output.trans h.gr.output, Nat.le_trans sz (Nat.le_trans (by simp) hg.size), fun i hi hne => ?_⟩
    rw [hg.block i (by simp; omega) ?_, Below.heap_alloc wr o i (by omega), h.gr.block i hi hne]
    rcases h.lies with e | ⟨b, e, hb⟩
    · rw [e]; exact hne
    · rw [e]
      intro q
      injection q with q
      omega
  · rcases hl with e | e
    · rw [e]; exact h.lies
    · exact Or.inr ⟨_, e, by omega⟩
/-- What withDigits leaves. -/
def RetW (w : World) (base : Nat) (v : Value) (n : Nat) (bs : List UInt8) (x : Nat) (e : Ending) (w' : World) : Prop := ∃ v', e = .returned v' ∧ Wdg w base v n bs x 9 v' w'
theorem div10_cast (x : Nat) : (x : Int).tdiv 10 = ((x / 10 : Nat) : Int) := (Int.ofNat_tdiv x 10).symm

set_option maxHeartbeats 2000000 in
set_option maxRecDepth 100000 in
theorem withDigits_any {v : Value} {n base x : Nat} {bs : List UInt8} {w : World} (h : w.ownsRow base 5 1 v n (bs.map bv)) (hb : base ≤ w.heap.size) (hn : n ≤ 10000) (hx : x < 4294967296) :
    Calls Tryd.prog 62 #[v, lv x] w fun e w' => RetW w base v n bs x e w' := by
  have S0 : Wdg w base v n bs x 0 v w := ⟨by simpa [pads] using h, World.grownBy.refl w _, Or.inl rfl⟩
  obtain ⟨i0, hi, hz0, hz1, hz2⟩ := info_parts info_u8
  have HI := Lib.hid hi; have HZ0 := Lib.hid hz0; have HZ1 := Lib.hid hz1; have HZ2 := Lib.hid hz2
  clear h hi hz0 hz1 hz2
  go_enter Tryd.func62, Tryd.ntmps62
  go_wp2_with fail
  go_loopg [0, 1, 5] 9 (fun q s0 s1 s5 wr => ∃ (k y : Nat), k + q = 9 ∧ y < 4294967296 ∧ s5 = .int .i64 (k : Int) ∧ s1 = lv y ∧ Hid (y = x / 10 ^ k) ∧ Wdg w base v n bs x k s0 wr)
  case atStart => exact ⟨0, x, by omega, hx, rfl, rfl, by unfold Hid; simp, S0⟩
  case round =>
    clear S0
    obtain ⟨k, y, hq, hy, rfl, rfl, ey, S⟩ := hrel
    have HQ := Lib.hid hq
    by_cases lt : k < 9
    · have il : (k : Int) < 9 := by omega
      have hb2 : base ≤ wr.heap.size := Nat.le_trans hb S.gr.size
      have E1 : Hid (bv (dig (x / 10 ^ k % 10)) = Value.int IntKind.u8 (48 + (y : Int) % 10)) := by
        unfold Hid
        rw [ey.out]
        exact congrArg (Value.int .u8) (by rw [dig_toNat (Nat.mod_lt _ (by decide))]; omega)
      have SH := Lib.hid S
      have k9 := lt
      clear hq
      go_wp2_with (at_builtin; refine wpList_append_own_at _ rfl _ _ 75 rfl base 5 i0 (.int .u8 0) 1 1 Tryd.underlying75 HI.out HZ0.out HZ1.out HZ2.out rfl (by decide) u0 (n + k) ((bs ++ (pads k x).map dig).map bv) rfl (SH.out.own.alloc _) ⟨wr.heap.size, 0, none⟩ 1 1 [bv (dig (x / 10 ^ k % 10))] rfl rfl ?qc2 ?qc3 ?qc4 ?qc5 ?qc6 ?_)
      case qc2 =>
        intro j u hj
        rw [E1.out] at hj
        have : j = 0 := by
          have := (List.getElem?_eq_some_iff.1 hj).1
          simp at this
          omega
        subst this
        simp at hj
        rw [← hj]
        simp [go_sem, Addr.add]
      case qc3 => intro u hu; rw [List.mem_singleton] at hu; rw [hu]; rfl
      case qc4 => unfold maxLen; omega
      case qc5 => omega
      case qc6 => simp; omega
      intro v2 w2 hown hg _ hl
      have ST := SH.out.step (v2 := v2) (w2 := w2) (by simpa using hown) hg hl
      have STh := Lib.hid ST
      have EY : Hid (y / 10 = x / 10 ^ (k + 1)) := by unfold Hid; rw [ey.out, Nat.div_div_eq_div_mul, ← Nat.pow_succ]
      have y1 : y / 10 < 4294967296 := by omega
      clear hown hg hl ST S SH
      go_wp2_with fail
      go_roundg (gk - 1)
      case measure => have := HQ.out; omega
      case rel =>
        go_light
        exact ⟨k + 1, y / 10, by have := HQ.out; omega, y1, by go_num, congrArg (Value.int .u32) (by omega), EY, STh.out⟩
    · obtain rfl : 9 = k := by omega
      have S := Lib.hid S
      go_wp2_with fail
      go_ret
      exact ⟨_, rfl, S.out⟩

/-- Block g begins with these bytes. -/
structure Brow (w : World) (g : Nat) (bs : List UInt8) (ys : List Value) : Prop where
  blk : w.heap[g]? = some (.cells (bs.map bv ++ ys).toArray 5 (0, 0))
theorem Brow.cell {w : World} {g : Nat} {bs : List UInt8} {ys : List Value} (h : Brow w g bs ys) (i : Nat) (hi : i < bs.length) : w.cell? ⟨g, i, none⟩ = some (bv bs[i]) := by
  have := h.blk
  simp [World.cell?, this, List.getElem?_append_left, hi]
theorem Brow.melt {w : World} {g : Nat} {bs : List UInt8} {ys : List Value} (h : Brow w g bs ys) (i : Nat) : w.frozen? ⟨g, i, none⟩ = false := by
  have := h.blk
  simp [World.frozen?, this]
theorem Brow.lt {w : World} {g : Nat} {bs : List UInt8} {ys : List Value} (h : Brow w g bs ys) : g < w.heap.size := (Array.getElem?_eq_some_iff.1 h.blk).1
theorem Brow.set_ {w : World} {g : Nat} {bs : List UInt8} {ys : List Value} (h : Brow w g bs ys) (i : Nat) (hi : i < bs.length) (b : UInt8) : Brow (w.setCell ⟨g, i, none⟩ (bv b)) g (bs.set i b) ys := by
  refine ⟨?_⟩
  have := h.blk
  simp [World.setCell, Array.getElem?_modify, this]
  rw [List.set_append_left _ _ (by simpa using hi)]
theorem Brow.drew {w : World} {g : Nat} {bs : List UInt8} {ys : List Value} (h : Brow w g bs ys) : Brow w.drew g bs ys := ⟨h.blk⟩
theorem own_brow {w : World} {base n : Nat} {v : Value} {bs : List UInt8} (h : w.ownsRow base 5 1 v n (bs.map bv)) (hn : 0 < n) : ∃ g c ys, v = .slice (some ⟨g, 0, none⟩) n c ∧ base ≤ g ∧ n ≤ c ∧ c ≤ maxLen ∧ bs.length = n ∧ Brow w g bs ys := by
  have hl : bs.length = n := by have := h.1; simpa using this
  rcases h.2 with ⟨rfl, rfl⟩ | ⟨g, cap, cur, rfl, h0, hb, h1, h2, h3, h4⟩
  · omega
  · refine ⟨g, cap, cur.toList.drop n, rfl, h0, h1, h2, hl, ⟨?_⟩⟩
    rw [hb]
    have : cur = (bs.map bv ++ cur.toList.drop n).toArray := by
      apply Array.ext'
      rw [Nat.mul_one] at h4
      rw [← h4]
      simp
    rw [← this]

theorem map_dig_at (ds : List Nat) (k : Nat) (hk : k < ds.length) : (ds.map dig)[k]'(by simpa using hk) = dig ds[k] := by simp
set_option maxHeartbeats 1000000 in
set_option maxRecDepth 100000 in
theorem trimRightByte_any {g n c : Nat} {ds : List Nat} {ys : List Value} {w : World} (h : Brow w g (ds.map dig) ys) (hd : Dg ds) (hl : ds.length = n) (hc : n ≤ c) (ht : c ≤ 9223372036854775807) :
    Calls Tryd.prog 91 #[.slice (some ⟨g, 0, none⟩) n c, .int .u8 48] w fun e w' => ∃ k, k ≤ n ∧ e = .returned (.slice (some ⟨g, 0, none⟩) k c) ∧ ds.take k = tens (dv ds) ∧ w = w' := by
  have H := Lib.hid h; have HD := Lib.hid hd; have HL := Lib.hid hl
  clear h hd hl
  go_enter Tryd.func91, Tryd.ntmps91
  go_wp2_with fail
  go_loopg [0] n (fun q s0 wr => q ≤ n ∧ s0 = .slice (some ⟨g, 0, none⟩) q c ∧ Hid (dv (ds.take q) = dv ds) ∧ w = wr)
  case atStart => exact ⟨Nat.le_refl _, rfl, by unfold Hid; rw [List.take_of_length_le (by rw [HL.out]; exact Nat.le_refl _)], rfl⟩
  case round =>
    obtain ⟨hq, rfl, hv, rfl⟩ := hrel
    by_cases hz : gk = 0
    · subst hz
      have E : Hid (ds.take 0 = tens (dv ds)) := by unfold Hid; rw [← hv.out, List.take_zero, dv, tens_zero]
      go_wp2_with fail
      go_ret
      exact ⟨0, Nat.zero_le _, rfl, E.out, rfl⟩
    · obtain ⟨k, rfl⟩ : ∃ k, gk = k + 1 := ⟨gk - 1, by omega⟩
      have kx : k < ds.length := by rw [HL.out]; omega
      have hcell0 := H.out.cell k (by simpa using kx)
      rw [map_dig_at ds k kx] at hcell0
      have hcell : w.cell? ⟨g, k, none⟩ = some (.int .u8 ((dig ds[k]).toNat : Int)) := hcell0
      clear hcell0
      have hd := HD.out _ (List.getElem_mem kx)
      have et : ds.take (k + 1) = ds.take k ++ [ds[k]] := take_snoc ds k kx
      by_cases hx : ds[k] = 0
      · have HV : Hid (dv (ds.take k) = dv ds) := by unfold Hid; rw [← hv.out, et, hx, dv_snoc_zero]
        have hc0 : w.cell? ⟨g, k, none⟩ = some (.int .u8 48) := by rw [hcell, hx]; rfl
        clear hx hv hcell et hd
        go_wp2_with fail
        go_roundg k
        case measure => omega
        case rel => exact ⟨by omega, rfl, HV, rfl⟩
      · have E : Hid (ds.take (k + 1) = tens (dv ds)) := by
          unfold Hid
          rw [← hv.out]
          refine (tens_dv (HD.out.take _) (getLast_ne (x := ds[k]) ?_ hx)).symm
          rw [List.length_take, Nat.min_eq_left (by omega), Nat.add_sub_cancel, List.getElem?_take, if_pos (by omega), List.getElem?_eq_getElem kx]
        have ne : (((dig ds[k]).toNat : Int) == 48) = false := by
          rw [dig_toNat hd]
          simp; omega
        generalize ds[k] = x at *
        generalize ((dig x).toNat : Int) = y at *
        clear hx hv et hd
        go_wp2_with fail
        go_ret
        exact ⟨k + 1, by omega, rfl, E.out, rfl⟩
set_option maxRecDepth 100000 in
theorem trimRight_any {g n c : Nat} {ds : List Nat} {ys : List Value} {w : World} (h : Brow w g (ds.map dig) ys) (hd : Dg ds) (hl : ds.length = n) (hc : n ≤ c) (ht : c ≤ 9223372036854775807) (hn : 0 < n) :
    Calls Tryd.prog 63 #[.slice (some ⟨g, 0, none⟩) n c, .string ⟨#[48]⟩] w fun e w' => ∃ k, k ≤ n ∧ e = .returned (.slice (some ⟨g, 0, none⟩) k c) ∧ ds.take k = tens (dv ds) ∧ w = w' := by
  have K := Lib.hid (trimRightByte_any h hd hl hc ht)
  have h0 : ((n : Int) == 0) = false := by simp; omega
  clear h hd hl
  go_enter Tryd.func63, Tryd.ntmps63
  go_wp2_with fail
  refine K.out.mono ?_
  rintro e w' ⟨k, hk, rfl, E, rfl⟩
  have E := Lib.hid E
  go_wp2_with fail
  go_ret
  exact ⟨k, hk, rfl, E.out, rfl⟩
end Go.Proofs.YtnacokogihanoaaDoor
