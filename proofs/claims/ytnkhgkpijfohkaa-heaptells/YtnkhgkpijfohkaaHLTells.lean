/- The walk of the law HeapTells, over what the six calls answer: all cases. -/
import Derived.Test.YtnkhgkpijfohkaaHLTellsA
import Derived.Test.YtnkhgkpijfohkaaHLTellsB
import Derived.Test.YtnkhgkpijfohkaaHLTellsC
namespace Go.Proofs.Ytnkhgkpijfohkaa.heapTells
open Go.RowKit
open Go.Proofs.Ytnkhgkpijfohkaa
set_option linter.unusedVariables false
set_option linter.unusedSimpArgs false
set_option maxHeartbeats 30000000
set_option maxRecDepth 100000
theorem walk (P : Prog11) (KCH : ∀ (a : It) (w : World), Calls Try.prog 17 #[itv a] w fun e w' => e = .returned (.int .i64 (chk a)) ∧ Below w.heap.size w w') (AW : ∀ w : World, Calls Try.prog 9 #[] w fun e w' => e = .returned (.bool true) ∧ Below w.heap.size w w') {A : Option Addr} {c : Nat} {l : List It} {w : World} (h : Lst w A c l) (x : It) (fx : x.Fit) (i : Int) (hi : -9223372036854775808 ≤ i ∧ i ≤ 9223372036854775807) (key : ByteArray) :
    Calls Try.prog 3 #[.slice A l.length c, itv x, .int .i64 i, .string key] w fun e w' => e = .returned (.bool true) ∧ Below w.heap.size w w' := by
  cases hs : smallB l
  · exact walk_long P KCH AW h x fx i hi key hs
  · by_cases hk1 : x.k.size ≤ 100
    · by_cases hk2 : key.size ≤ 100
      · cases hr : rightB l
        · exact walk_wrong P KCH AW h x fx i hi key hs hk1 hk2 hr
        · by_cases hc : chk x = 0
          · exact walk_good P KCH AW h x fx i hi key hs hk1 hk2 hr hc
          · exact walk_bad P KCH AW h x fx i hi key hs hk1 hk2 hr hc
      · exact walk_find P KCH AW h x fx i hi key hs hk1 hk2
    · exact walk_key P KCH AW h x fx i hi key hs hk1
end Go.Proofs.Ytnkhgkpijfohkaa.heapTells
