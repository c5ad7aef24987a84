/- The walk of EventUnlike: its main ways. -/
import Derived.Test.YthfhfekneahonaaDoorLh1
import Derived.Test.YthfhfekneahonaaDoorLh2
import Derived.Test.YthfhfekneahonaaDoorLh3
import Derived.Test.YthfhfekneahonaaDoorLh4
namespace Go.Proofs.YthfhfekneahonaaDoor
open Go.RowKit
set_option linter.unusedVariables false
theorem law_unlike (s1 : ByteArray) (n1 a1 k1 : Int) (p1 i1 : ByteArray) (v1 : Int) (t1 : ByteArray) (s2 : ByteArray) (n2 a2 k2 : Int) (p2 i2 : ByteArray) (v2 : Int) (t2 : ByteArray) (w : World) (hL : Lay w) :
    Calls Tryd.prog 10 #[.agg #[.string s1, .int .i64 n1, .int .i64 a1, .int .i64 k1, .string p1, .string i1, .int .i64 v1, .string t1], .agg #[.string s2, .int .i64 n2, .int .i64 a2, .int .i64 k2, .string p2, .string i2, .int .i64 v2, .string t2]] w fun e w' => e = .returned (.bool true) ∧ Below w.heap.size w w' := by
  by_cases z1 : Small ⟨s1, n1, a1, k1, p1, i1, v1, t1⟩ 300
  · by_cases z2 : Small ⟨s2, n2, a2, k2, p2, i2, v2, t2⟩ 300
    · by_cases y1 : mayB ⟨s1, n1, a1, k1, p1, i1, v1, t1⟩ = true
      · by_cases y2 : mayB ⟨s2, n2, a2, k2, p2, i2, v2, t2⟩ = true
        · by_cases he : (⟨s1, n1, a1, k1, p1, i1, v1, t1⟩ : Ev) = ⟨s2, n2, a2, k2, p2, i2, v2, t2⟩
          · injection he with e1 e2 e3 e4 e5 e6 e7 e8
            subst e1 e2 e3 e4 e5 e6 e7 e8
            exact unl_m8 s1 n1 a1 k1 p1 i1 v1 t1 z1 z2 y1 y2 w hL
          · by_cases hl : (encL ⟨s1, n1, a1, k1, p1, i1, v1, t1⟩).length ≤ (encL ⟨s2, n2, a2, k2, p2, i2, v2, t2⟩).length
            · rcases ne_cases s1 n1 a1 k1 p1 i1 v1 t1 s2 n2 a2 k2 p2 i2 v2 t2 he with x0 | ⟨rfl, x0⟩ | ⟨rfl, rfl, x0⟩ | ⟨rfl, rfl, rfl, x0⟩ | ⟨rfl, rfl, rfl, rfl, x0⟩ | ⟨rfl, rfl, rfl, rfl, rfl, x0⟩ | ⟨rfl, rfl, rfl, rfl, rfl, rfl, x0⟩ | ⟨rfl, rfl, rfl, rfl, rfl, rfl, rfl, x0⟩
              · exact unl_m0le s1 n1 a1 k1 p1 i1 v1 t1 s2 n2 a2 k2 p2 i2 v2 t2 z1 z2 y1 y2 x0 he hl w hL
              · exact unl_m1le s1 n1 a1 k1 p1 i1 v1 t1 n2 a2 k2 p2 i2 v2 t2 z1 z2 y1 y2 x0 he hl w hL
              · exact unl_m2le s1 n1 a1 k1 p1 i1 v1 t1 a2 k2 p2 i2 v2 t2 z1 z2 y1 y2 x0 he hl w hL
              · exact unl_m3le s1 n1 a1 k1 p1 i1 v1 t1 k2 p2 i2 v2 t2 z1 z2 y1 y2 x0 he hl w hL
              · exact unl_m4le s1 n1 a1 k1 p1 i1 v1 t1 p2 i2 v2 t2 z1 z2 y1 y2 x0 he hl w hL
              · exact unl_m5le s1 n1 a1 k1 p1 i1 v1 t1 i2 v2 t2 z1 z2 y1 y2 x0 he hl w hL
              · exact unl_m6le s1 n1 a1 k1 p1 i1 v1 t1 v2 t2 z1 z2 y1 y2 x0 he hl w hL
              · exact unl_m7le s1 n1 a1 k1 p1 i1 v1 t1 t2 z1 z2 y1 y2 x0 he hl w hL
            · rcases ne_cases s1 n1 a1 k1 p1 i1 v1 t1 s2 n2 a2 k2 p2 i2 v2 t2 he with x0 | ⟨rfl, x0⟩ | ⟨rfl, rfl, x0⟩ | ⟨rfl, rfl, rfl, x0⟩ | ⟨rfl, rfl, rfl, rfl, x0⟩ | ⟨rfl, rfl, rfl, rfl, rfl, x0⟩ | ⟨rfl, rfl, rfl, rfl, rfl, rfl, x0⟩ | ⟨rfl, rfl, rfl, rfl, rfl, rfl, rfl, x0⟩
              · exact unl_m0gt s1 n1 a1 k1 p1 i1 v1 t1 s2 n2 a2 k2 p2 i2 v2 t2 z1 z2 y1 y2 x0 he hl w hL
              · exact unl_m1gt s1 n1 a1 k1 p1 i1 v1 t1 n2 a2 k2 p2 i2 v2 t2 z1 z2 y1 y2 x0 he hl w hL
              · exact unl_m2gt s1 n1 a1 k1 p1 i1 v1 t1 a2 k2 p2 i2 v2 t2 z1 z2 y1 y2 x0 he hl w hL
              · exact unl_m3gt s1 n1 a1 k1 p1 i1 v1 t1 k2 p2 i2 v2 t2 z1 z2 y1 y2 x0 he hl w hL
              · exact unl_m4gt s1 n1 a1 k1 p1 i1 v1 t1 p2 i2 v2 t2 z1 z2 y1 y2 x0 he hl w hL
              · exact unl_m5gt s1 n1 a1 k1 p1 i1 v1 t1 i2 v2 t2 z1 z2 y1 y2 x0 he hl w hL
              · exact unl_m6gt s1 n1 a1 k1 p1 i1 v1 t1 v2 t2 z1 z2 y1 y2 x0 he hl w hL
              · exact unl_m7gt s1 n1 a1 k1 p1 i1 v1 t1 t2 z1 z2 y1 y2 x0 he hl w hL
        · exact unl_4 s1 n1 a1 k1 p1 i1 v1 t1 s2 n2 a2 k2 p2 i2 v2 t2 z1 z2 y1 (by simpa using y2) w hL
      · exact unl_3 s1 n1 a1 k1 p1 i1 v1 t1 s2 n2 a2 k2 p2 i2 v2 t2 z1 z2 (by simpa using y1) w hL
    · exact unl_2 s1 n1 a1 k1 p1 i1 v1 t1 s2 n2 a2 k2 p2 i2 v2 t2 z1 z2 w hL
  · exact unl_1 s1 n1 a1 k1 p1 i1 v1 t1 s2 n2 a2 k2 p2 i2 v2 t2 z1 w hL
end Go.Proofs.YthfhfekneahonaaDoor
