/- The walk of EventBytes: all ways. -/
import Derived.Test.YthfhfekneahonaaDoorX5
import Derived.Test.YthfhfekneahonaaDoorX6
import Derived.Test.YthfhfekneahonaaDoorX7
import Derived.Test.YthfhfekneahonaaDoorX8
import Derived.Test.YthfhfekneahonaaDoorX9
import Derived.Test.YthfhfekneahonaaDoorX10
namespace Go.Proofs.YthfhfekneahonaaDoor
open Go.RowKit
set_option linter.unusedVariables false
theorem law_bytes (s : ByteArray) (n a k : Int) (p i : ByteArray) (v : Int) (t : ByteArray) (tv : Value) (tl : List UInt8) (cut : Int) (w : World) (hL : Lay w) (ht : Seen w w.heap.size tv tl) :
    Calls Tryd.prog 6 #[.agg #[.string s, .int .i64 n, .int .i64 a, .int .i64 k, .string p, .string i, .int .i64 v, .string t], tv, .int .i64 cut] w fun e w' => e = .returned (.bool true) ∧ Below w.heap.size w w' := by
  by_cases z : Small ⟨s, n, a, k, p, i, v, t⟩ 1000
  · by_cases hl : 100 < tl.length
    · exact by_2 s n a k p i v t tv tl cut z hl w hL ht
    · by_cases y : mayB ⟨s, n, a, k, p, i, v, t⟩ = true
      · by_cases h1 : cut < 0
        · rcases id ht with ⟨rfl, rfl⟩ | ⟨ad, qc, rfl, _⟩
          · exact by_neg_nil s n a k p i v t cut h1 z y w hL ht
          · exact by_neg_some s n a k p i v t ad qc tl hl cut h1 z y w hL ht
        · by_cases h2 : ((encL ⟨s, n, a, k, p, i, v, t⟩).length : Int) ≤ cut
          · rcases id ht with ⟨rfl, rfl⟩ | ⟨ad, qc, rfl, _⟩
            · exact by_ge_nil s n a k p i v t cut h1 h2 z y w hL ht
            · exact by_ge_some s n a k p i v t ad qc tl hl cut h1 h2 z y w hL ht
          · obtain ⟨m, rfl⟩ : ∃ m : Nat, cut = m := ⟨cut.toNat, by omega⟩
            rcases id ht with ⟨rfl, rfl⟩ | ⟨ad, qc, rfl, _⟩
            · exact by_in_nil s n a k p i v t m (by omega) z y w hL ht
            · exact by_in_some s n a k p i v t ad qc tl hl m (by omega) z y w hL ht
      · exact by_3 s n a k p i v t tv tl cut z hl (by simpa using y) w hL ht
  · exact by_1 s n a k p i v t tv tl cut z w hL ht
end Go.Proofs.YthfhfekneahonaaDoor
