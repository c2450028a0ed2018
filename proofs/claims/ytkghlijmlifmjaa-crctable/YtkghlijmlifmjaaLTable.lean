/- For any two bytes the law CrcTable answers true: two numbers of the table, changed by one another, are that at both places, changed by one another. No condition. -/
import Derived.Test.YtkghlijmlifmjaaCO
namespace Go.Proofs.Ytkghlijmlifmjaa.crcTable
open Go.ChangeShapes Go.WideShapes Go.ChangeAt Go.RowKit
open Go.Proofs.Ytkghlijmlifmjaa
set_option linter.unusedVariables false
set_option linter.unusedSimpArgs false

set_option maxHeartbeats 4000000 in
set_option maxRecDepth 100000 in
theorem walk (i k : UInt8) (w : World) : Calls Try.prog 8 #[.int .u8 (i.toNat : Int), .int .u8 (k.toNat : Int)] w fun e w' => e = .returned (.bool true) ∧ Below w.heap.size w w' := by
  have Z := zero_tab
  have X8 := xor_8 i k
  have XT := xor_J (tab i) (tab k)
  rw [← tab_xor] at XT
  obtain ⟨c, hc⟩ : ∃ c, c = i ^^^ k := ⟨_, rfl⟩
  rw [← hc] at X8 XT
  clear hc
  have T0 : Hid ((tc 256)[0]? = some (.int .u32 0)) := by unfold Hid; rw [kJ0, ← tab_zero]; exact tc_byte 0
  have Ti := Lib.hid (tc_byte i); have Tk := Lib.hid (tc_byte k); have Tc := Lib.hid (tc_byte c)
  generalize tab i = ti at *
  generalize tab k = tk at *
  generalize tab c = tcc at *
  have i1 : (i.toNat : Int) < 256 := by have := i.toNat_lt; omega
  have k1 : (k.toNat : Int) < 256 := by have := k.toNat_lt; omega
  have c1 : (c.toNat : Int) < 256 := by have := c.toNat_lt; omega
  go_enter Try.func8, Try.ntmps8
  go_wp2_with fail
  refine (table_any _).mono ?_
  rintro e W ⟨rfl, B⟩
  have M := One.over B (tc 0) 26
  obtain ⟨t1, G⟩ := M.bg
  have hG := Lib.hid G
  clear G
  obtain ⟨g, hg⟩ : ∃ g, g = W.heap.size := ⟨_, rfl⟩
  rw [← hg] at M hG
  go_upto_region 2 with (refine wpList_store_row rfl 26 _ _ rfl g (tc 256) (by rw [hg]; rfl) rfl t1 (tc 0) hG.out (size_tab 256) (by rw [tc_size, tc_size]) (tc_one 256) ?_)
  replace M := M.row (tc 256)
  rw [← hg]
  obtain ⟨W1, hW⟩ : ∃ W1, W1 = (W.alloc (.cells (tc 0) 26)).setRow g (tc 256) := ⟨_, rfl⟩
  rw [← hW] at M
  rw [← hW]
  clear hW hg hG B Z
  have d0 := M.bg.cell T0.out; have d1 := M.bg.cell Ti.out; have d2 := M.bg.cell Tk.out; have d3 := M.bg.cell Tc.out
  go_region_held3 (fun w' => w'.cell? ⟨g, 0, none⟩ = some (.int .u32 0) ∧ w'.cell? ⟨g, i.toNat, none⟩ = some (.int .u32 (J ti)) ∧ w'.cell? ⟨g, k.toNat, none⟩ = some (.int .u32 (J tk)) ∧ w'.cell? ⟨g, c.toNat, none⟩ = some (.int .u32 (J tcc)))
    ((refine ⟨?_, ?_, ?_, ?_⟩ <;> (repeat (first | with_reducible exact d0 | with_reducible exact d1 | with_reducible exact d2 | with_reducible exact d3 | with_reducible refine keep_drew ?_ | with_reducible refine keep_cell (by assumption) ?_))))
    (first | (go_at_call 9; refine (awake_any _).mono ?_; rintro e z3 ⟨rfl, hz3⟩))
  all_goals go_wp2_with fail
  all_goals go_light
  go_ret
  exact ⟨rfl, below_step M.drew.bl hz3⟩

set_option maxRecDepth 100000 in
theorem lifted (os : Os) (started : os.Started) (H : Type) (enc : TypeId × Value → H) :
    ReturnsInHanded {} Try.checked os 8 .any (Rows.crcTableSpec.pre6 enc Try.prog Try.f8 Rows.crcTableRow.domain false) (Rows.crcTableSpec.post enc Try.prog Try.f8 false true false false) := by
  refine returnsInHanded_of_change (C := Try.checked) own started (by kernel_rfl) Try.func8
    (ChangeSpec.witness6 (enc := enc) (C := Try.checked) false ⟨#[], #[.int .u8 0, .int .u8 0], []⟩ 8 (by kernel_rfl) (by kernel_rfl) (by kernel_rfl) (by kernel_rfl)) ?_
  intro W base args ds gs before hval0 hW hcnd _
  have hval : ∀ (j : Nat) t v, Try.f8.params[j]? = some t → args[j]? = some v → Value.okWide Try.prog W .any base t v := hval0
  have hW' := hW
  obtain ⟨p, q, hA0, hV, rfl, _, _⟩ := hW
  have hA : DataW.TrodAll enc Try.prog W 0 (fun _ => true) true Try.f8.params.toList args.toList ds p := hA0
  rw [Try.params8] at hA hval
  obtain ⟨v0, v1, d0, d1, p0, p1, rfl, rfl, rfl, h0t, h1t⟩ := trodAll_two hA
  obtain ⟨rfl, rfl⟩ := trodVars_none hV
  obtain ⟨b0, rfl⟩ := open_u8 (hval 0 5 v0 rfl rfl) h0t
  obtain ⟨b1, rfl⟩ := open_u8 (hval 1 5 v1 rfl rfl) h1t
  clear hA0 hval0
  simp only [List.append_nil] at hW'
  have hlt : ∀ x ∈ p0 ++ p1, x.block < W.heap.size := fun x hx => by simpa using hW'.lt x (by simpa using hx)
  refine (walk b0 b1 W).mono fun e W' ⟨he, hbl⟩ => ?_
  subst he
  refine ⟨_, rfl, post_args hW' (fun _ _ _ => trodAll_mk1 (shut_bool Try.underlying4 _)) ?_ (fun _ => rfl) hbl⟩
  have t0 := Below.trod laidOut readable_u8 typed_u8 h0t hbl (fun x hx => hlt x (List.mem_append_left _ hx))
  have t1 := Below.trod laidOut readable_u8 typed_u8 h1t hbl (fun x hx => hlt x (List.mem_append_right _ hx))
  exact trodAll_mk2 t0 t1

theorem proved : Rows.CrcTableSaid :=
  OpenClaim.holds_of_wide 8 Try.f8 rfl rfl rfl rfl rfl rfl rfl ⟨rfl, rfl, rfl, rfl, rfl⟩ rfl rfl rfl rfl rfl (by kernel_rfl) Try.func8 (by kernel_rfl)
    (of_decide_eq_true (by kernel_rfl)) (by unfold Func.isWrapper; first | (rw [if_pos (by decide +kernel)]; kernel_rfl) | (rw [if_neg (by decide +kernel)]; exact ⟨rfl, rfl⟩))
    (fun os started H enc _ => lifted os started H enc)
#print axioms proved
end Go.Proofs.Ytkghlijmlifmjaa.crcTable
