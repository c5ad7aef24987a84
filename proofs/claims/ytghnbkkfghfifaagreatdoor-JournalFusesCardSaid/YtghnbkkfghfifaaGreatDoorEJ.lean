/- Bytes: texts and numbers: the program's and the reference's. -/
import Derived.Test.YtghnbkkfghfifaaGreatDoorEI
import Derived.Lib.AppendStr
import Derived.Deep.AppendLies
namespace Go.Proofs.YtghnbkkfghfifaaGreatDoor.E
open Go.RowKit
set_option linter.unusedVariables false
/-- A number in groups of seven bits. -/
def numL (n : Nat) : List UInt8 := if h : n < 128 then [n.toUInt8] else (n % 128 + 128).toUInt8 :: numL (n / 128)
termination_by n
decreasing_by omega
theorem numL_small {n : Nat} (h : n < 128) : numL n = [n.toUInt8] := by rw [numL, dif_pos h]
theorem numL_big {n : Nat} (h : ¬ n < 128) : numL n = (n % 128 + 128).toUInt8 :: numL (n / 128) := by rw [numL, dif_neg h]
theorem numL_len : ∀ (k n : Nat), n < 128 ^ (k + 1) → (numL n).length ≤ k + 1
  | 0, n, h => by rw [numL_small (by omega)]; simp
  | k + 1, n, h => by
    by_cases hs : n < 128
    · rw [numL_small hs]; simp
    · rw [numL_big hs, List.length_cons]
      have := numL_len k (n / 128) (by rw [Nat.div_lt_iff_lt_mul (by omega)]; rw [Nat.pow_succ] at h; exact h)
      omega
theorem numL_pos (n : Nat) : 1 ≤ (numL n).length := by
  by_cases hs : n < 128
  · rw [numL_small hs]; simp
  · rw [numL_big hs]; simp
theorem numL_le {n : Nat} (h : n ≤ 9223372036854775807) : (numL n).length ≤ 10 := numL_len 9 n (by omega)
/-- A text's bytes. -/
def txtL (s : ByteArray) : List UInt8 := s.size.toUInt8 :: s.data.toList
theorem txtL_len (s : ByteArray) : (txtL s).length = s.size + 1 := by unfold txtL; simp
/-- Bytes as cells. -/
def u8s (l : List UInt8) : List Value := l.map fun b => Value.int .u8 b.toNat
theorem u8s_app (a b : List UInt8) : u8s (a ++ b) = u8s a ++ u8s b := by unfold u8s; simp
theorem u8s_str (s : ByteArray) : u8s s.data.toList = Lib.strCells s := rfl
/-- A value owns these bytes. -/
def OwnB (w : World) (base : Nat) (v : Value) (l : List UInt8) : Prop := w.ownsRow base 5 1 v l.length (u8s l)
theorem OwnB.below {w w' : World} {base B : Nat} {v : Value} {l : List UInt8} (h : OwnB w base v l) (hb : Below B w w') (hB : w.heap.size ≤ B) : OwnB w' base v l := by
  obtain ⟨h1, h2⟩ := h
  refine ⟨h1, ?_⟩
  rcases h2 with h2 | ⟨g, cap, cur, hv, hg, hh, r⟩
  · exact .inl h2
  · exact .inr ⟨g, cap, cur, hv, hg, by rw [hb.block g (Nat.lt_of_lt_of_le (lt_of_block hh) hB)]; exact hh, r⟩
theorem OwnB.mono {w : World} {base base' : Nat} {v : Value} {l : List UInt8} (h : OwnB w base v l) (hb : base' ≤ base) : OwnB w base' v l := own_base h hb
theorem info5 : (Tryz.prog.info? 5).map (fun i => (i.zero, i.size, i.bytes)) = some (some (.int .u8 0), 1, 1) := by kernel_rfl
theorem u8_wrap {n : Nat} (h : n < 256) : IntKind.u8.wrap (n : Int) = ((n.toUInt8.toNat : Nat) : Int) := by
  rw [show IntKind.u8.wrap (n : Int) = n by rw [IntKind.wrap_u8]; omega]
  have : n.toUInt8.toNat = n := by simp; omega
  rw [this]
theorem u8_nat {n : Nat} (h : n < 256) : (n : Int) = ((n.toUInt8.toNat : Nat) : Int) := by
  have : n.toUInt8.toNat = n := by simp; omega
  rw [this]
set_option maxRecDepth 100000 in
theorem putText_any (base : Nat) (v : Value) (l : List UInt8) (s : ByteArray) (hs : s.size ≤ 255) (hl : l.length ≤ 1000000) (w : World) (hown : OwnB w base v l) (hbase : base ≤ w.heap.size) :
    Calls Tryz.prog 132 #[v, .string s] w fun e w' => ∃ v', e = .returned v' ∧ OwnB w' base v' (l ++ txtL s) ∧ Below base w w' := by
  obtain ⟨i0, hi, hz0, hz1, hz2⟩ := info_parts info5
  unfold OwnB at hown
  have hb0 := own_block hown
  go_enter Tryz.func132, Tryz.ntmps132
  go_wp2_with (at_builtin; refine wpList_append_own _ rfl (.tmp 5) (.tmp 9) 38 rfl base 5 i0 (.int .u8 0) 1 1 Tryz.underlying38 hi hz0 hz1 hz2 rfl (by decide) _ _ _ rfl (hown.alloc _) ⟨w.heap.size, 0, none⟩ 1 1 [.int .u8 (s.size : Int)] rfl rfl ?c1 ?c2 ?c3 ?c4 ?c5 ?_)
  case c1 => exact cell_one _ _ _
  case c2 => intro u hu; simp at hu; subst hu; rfl
  case c3 => unfold maxLen; omega
  case c4 => omega
  case c5 => simp; omega
  intro v1 w1 hown1 hgrow1 _
  have hb1 := ((Below.refl base w).alloc hbase _).grown hgrow1 (by simp; omega) hb0
  have hbb := own_block hown1
  clear hgrow1 hown hb0
  go_wp2_with (at_builtin; refine Lib.wpList_append_own_string _ rfl (.tmp 10) (.tmp 11) 38 9 rfl base 5 i0 Tryz.underlying38 Tryz.underlying9 hi hz0 hz1 hz2 _ _ _ rfl hown1 s rfl ?d1 ?d2 ?d3 ?_)
  case d1 => unfold maxLen; omega
  case d2 => omega
  case d3 => have := hb1.size; omega
  intro v2 w2 hown2 hgrow2 _
  have hb2 := hb1.grown hgrow2 (by have := hb1.size; omega) hbb
  clear hgrow2 hown1 hb1 hbb
  go_wp2
  go_ret
  refine ⟨_, rfl, ?_, hb2⟩
  unfold OwnB
  have e1 : (l ++ txtL s).length = l.length + 1 + s.size := by rw [List.length_append, txtL_len]; omega
  have e2 : u8s (l ++ txtL s) = u8s l ++ [Value.int .u8 (s.size : Int)] ++ Lib.strCells s := by
    rw [u8s_app, u8_nat (show s.size < 256 by omega)]
    simp [txtL, u8s, Lib.strCells]
  rw [e1, e2, List.append_assoc]
  exact hown2
set_option maxRecDepth 100000 in
theorem putNumber_any (base : Nat) (v : Value) (l : List UInt8) (n : Nat) (hn : n ≤ 9223372036854775807) (hl : l.length ≤ 1000000) (w : World) (hown : OwnB w base v l) (hbase : base ≤ w.heap.size) :
    Calls Tryz.prog 133 #[v, .int .i64 n] w fun e w' => ∃ v', e = .returned v' ∧ OwnB w' base v' (l ++ numL n) ∧ Below base w w' := by
  obtain ⟨i0, hi, hz0, hz1, hz2⟩ := info_parts info5
  have hlen := numL_le hn
  go_enter Tryz.func133, Tryz.ntmps133
  go_wp2
  go_loopw [0, 1] (fun u c wr => ∃ (out : List UInt8) (m : Nat), c = .int .i64 m ∧ Hid (numL n = out ++ numL m) ∧ out.length ≤ 10 ∧ m ≤ n ∧ OwnB wr base u (l ++ out) ∧ Below base w wr) (fun _ c _ => (intOf c).toNat)
  case atStart => exact ⟨[], n, rfl, rfl, by simp, by omega, by simpa using hown, Below.refl _ _⟩
  case round =>
    obtain ⟨out, m, rfl, HE, ho, hm, hown, hb⟩ := hrel
    have hl2 : (l ++ out).length ≤ 1000010 := by rw [List.length_append]; omega
    by_cases hs : m < 128
    · have HS := Lib.hid (numL_small hs)
      unfold OwnB at hown
      have hb0 := own_block hown
      go_wp2_with (at_builtin; refine wpList_append_own _ rfl (.tmp 16) (.tmp 19) 38 rfl base 5 i0 (.int .u8 0) 1 1 Tryz.underlying38 hi hz0 hz1 hz2 rfl (by decide) _ _ _ rfl (hown.alloc _) ⟨wr.heap.size, 0, none⟩ 1 1 [.int .u8 (m : Int)] rfl rfl ?c1 ?c2 ?c3 ?c4 ?c5 ?_)
      case c1 => exact cell_one _ _ _
      case c2 => intro u hu; simp at hu; subst hu; rfl
      case c3 => unfold maxLen; omega
      case c4 => omega
      case c5 => have := hb.size; simp; omega
      intro v1 w1 hown1 hgrow1 _
      have hb1 := (hb.alloc (by have := hb.size; omega) _).grown hgrow1 (by have := hb.size; simp; omega) hb0
      clear hgrow1 hown hb0 hb
      go_wp2
      go_ret
      refine ⟨_, rfl, ?_, hb1⟩
      rw [HE.out, HS.out, ← List.append_assoc]
      unfold OwnB
      have e1 : ((l ++ out) ++ [m.toUInt8]).length = l.length + out.length + 1 := by simp; omega
      have e2 : u8s ((l ++ out) ++ [m.toUInt8]) = u8s (l ++ out) ++ [Value.int .u8 (m : Int)] := by
        rw [u8s_app (l ++ out), u8_nat (show m < 256 by omega)]; rfl
      rw [e1, e2]
      exact hown1
    · have HS := Lib.hid (numL_big hs)
      have ho2 : out.length + 1 ≤ 10 := by
        have h1 := congrArg List.length HE.out
        rw [List.length_append, numL_big hs, List.length_cons] at h1
        have := numL_pos (m / 128)
        omega
      unfold OwnB at hown
      have hb0 := own_block hown
      go_wp2_with (at_builtin; refine wpList_append_own _ rfl (.tmp 7) (.tmp 12) 38 rfl base 5 i0 (.int .u8 0) 1 1 Tryz.underlying38 hi hz0 hz1 hz2 rfl (by decide) _ _ _ rfl (hown.alloc _) ⟨wr.heap.size, 0, none⟩ 1 1 [.int .u8 ((m : Int) % 128 + 128)] rfl rfl ?k1 ?k2 ?k3 ?k4 ?k5 ?_)
      case k1 => exact cell_one _ _ _
      case k2 => intro u hu; simp at hu; subst hu; rfl
      case k3 => unfold maxLen; omega
      case k4 => omega
      case k5 => have := hb.size; simp; omega
      intro v1 w1 hown1 hgrow1 _
      have hb1 := (hb.alloc (by have := hb.size; omega) _).grown hgrow1 (by have := hb.size; simp; omega) hb0
      clear hgrow1 hown hb0 hb
      go_wp2
      go_roundw
      case rel =>
        refine ⟨out ++ [(m % 128 + 128).toUInt8], m / 128, by go_num, by unfold Hid; rw [HE.out, HS.out]; simp, by simp; omega, by omega, ?_, hb1⟩
        unfold OwnB
        have e1 : (l ++ (out ++ [(m % 128 + 128).toUInt8])).length = l.length + out.length + 1 := by simp; omega
        have e2 : u8s (l ++ (out ++ [(m % 128 + 128).toUInt8])) = u8s (l ++ out) ++ [Value.int .u8 ((m : Int) % 128 + 128)] := by
          rw [← List.append_assoc, u8s_app (l ++ out)]
          have : ((m : Int) % 128 + 128) = (((m % 128 + 128 : Nat) : Nat) : Int) := by omega
          rw [this, u8_nat (show m % 128 + 128 < 256 by omega)]; rfl
        rw [e1, e2]
        exact hown1
      case measure => simp [intOf]; omega
set_option maxRecDepth 100000 in
theorem number_any (n : Nat) (hn : n ≤ 9223372036854775807) (w : World) :
    Calls Tryz.prog 103 #[.int .i64 n] w fun e w' => ∃ v', e = .returned v' ∧ OwnB w' w.heap.size v' (numL n) ∧ Below w.heap.size w w' := by
  obtain ⟨i0, hi, hz0, hz1, hz2⟩ := info_parts info5
  have hlen := numL_le hn
  go_enter Tryz.func103, Tryz.ntmps103
  go_wp2
  go_loopw [3, 0] (fun u c wr => ∃ (out : List UInt8) (m : Nat), c = .int .i64 m ∧ Hid (numL n = out ++ numL m) ∧ out.length ≤ 10 ∧ m ≤ n ∧ OwnB wr w.heap.size u out ∧ Below w.heap.size w wr) (fun _ c _ => (intOf c).toNat)
  case atStart => exact ⟨[], n, rfl, rfl, by simp, by omega, own_lit0 w 5, (Below.refl _ _).alloc (by simp) _⟩
  case round =>
    obtain ⟨out, m, rfl, HE, ho, hm, hown, hb⟩ := hrel
    by_cases hs : m < 128
    · have HS := Lib.hid (numL_small hs)
      unfold OwnB at hown
      have hb0 := own_block hown
      go_wp2_with (at_builtin; refine wpList_append_own _ rfl (.tmp 16) (.tmp 19) 38 rfl w.heap.size 5 i0 (.int .u8 0) 1 1 Tryz.underlying38 hi hz0 hz1 hz2 rfl (by decide) _ _ _ rfl (hown.alloc _) ⟨wr.heap.size, 0, none⟩ 1 1 [.int .u8 (m : Int)] rfl rfl ?c1 ?c2 ?c3 ?c4 ?c5 ?_)
      case c1 => exact cell_one _ _ _
      case c2 => intro u hu; simp at hu; subst hu; rfl
      case c3 => unfold maxLen; omega
      case c4 => omega
      case c5 => have := hb.size; simp; omega
      intro v1 w1 hown1 hgrow1 _
      have hb1 := (hb.alloc (by have := hb.size; omega) _).grown hgrow1 (by have := hb.size; simp; omega) hb0
      clear hgrow1 hown hb0 hb
      go_wp2
      go_ret
      refine ⟨_, rfl, ?_, hb1⟩
      rw [HE.out, HS.out]
      unfold OwnB
      have e1 : (out ++ [m.toUInt8]).length = out.length + 1 := by simp
      have e2 : u8s (out ++ [m.toUInt8]) = u8s out ++ [Value.int .u8 (m : Int)] := by
        rw [u8s_app out, u8_nat (show m < 256 by omega)]; rfl
      rw [e1, e2]
      exact hown1
    · have HS := Lib.hid (numL_big hs)
      have ho2 : out.length + 1 ≤ 10 := by
        have h1 := congrArg List.length HE.out
        rw [List.length_append, numL_big hs, List.length_cons] at h1
        have := numL_pos (m / 128)
        omega
      unfold OwnB at hown
      have hb0 := own_block hown
      go_wp2_with (at_builtin; refine wpList_append_own _ rfl (.tmp 7) (.tmp 12) 38 rfl w.heap.size 5 i0 (.int .u8 0) 1 1 Tryz.underlying38 hi hz0 hz1 hz2 rfl (by decide) _ _ _ rfl (hown.alloc _) ⟨wr.heap.size, 0, none⟩ 1 1 [.int .u8 ((m : Int) % 128 + 128)] rfl rfl ?k1 ?k2 ?k3 ?k4 ?k5 ?_)
      case k1 => exact cell_one _ _ _
      case k2 => intro u hu; simp at hu; subst hu; rfl
      case k3 => unfold maxLen; omega
      case k4 => omega
      case k5 => have := hb.size; simp; omega
      intro v1 w1 hown1 hgrow1 _
      have hb1 := (hb.alloc (by have := hb.size; omega) _).grown hgrow1 (by have := hb.size; simp; omega) hb0
      clear hgrow1 hown hb0 hb
      go_wp2
      go_roundw
      case rel =>
        refine ⟨out ++ [(m % 128 + 128).toUInt8], m / 128, by go_num, by unfold Hid; rw [HE.out, HS.out]; simp, by simp; omega, by omega, ?_, hb1⟩
        unfold OwnB
        have e1 : (out ++ [(m % 128 + 128).toUInt8]).length = out.length + 1 := by simp
        have e2 : u8s (out ++ [(m % 128 + 128).toUInt8]) = u8s out ++ [Value.int .u8 ((m : Int) % 128 + 128)] := by
          rw [u8s_app out]
          have : ((m : Int) % 128 + 128) = (((m % 128 + 128 : Nat) : Nat) : Int) := by omega
          rw [this, u8_nat (show m % 128 + 128 < 256 by omega)]; rfl
        rw [e1, e2]
        exact hown1
      case measure => simp [intOf]; omega
theorem own_lit1 (w : World) (x : UInt8) : OwnB (w.alloc (.cells #[.int .u8 x.toNat] 5)) w.heap.size (.slice (some ⟨w.heap.size, 0, none⟩) 1 1) [x] :=
  ⟨rfl, .inr ⟨w.heap.size, 1, _, rfl, Nat.le_refl _, heap_alloc_new w _, Nat.le_refl _, by unfold maxLen; decide, rfl, rfl⟩⟩
set_option maxRecDepth 100000 in
theorem word_any (s : ByteArray) (hs : s.size ≤ 255) (w : World) :
    Calls Tryz.prog 102 #[.string s] w fun e w' => ∃ v', e = .returned v' ∧ OwnB w' w.heap.size v' (txtL s) ∧ Below w.heap.size w w' := by
  obtain ⟨i0, hi, hz0, hz1, hz2⟩ := info_parts info5
  have hown := own_lit1 w s.size.toUInt8
  rw [← u8_nat (show s.size < 256 by omega)] at hown
  unfold OwnB at hown
  have hb0 := own_block hown
  go_enter Tryz.func102, Tryz.ntmps102
  go_wp2_with (at_builtin; refine Lib.wpList_append_own_string _ rfl (.tmp 6) (.tmp 7) 38 9 rfl w.heap.size 5 i0 Tryz.underlying38 Tryz.underlying9 hi hz0 hz1 hz2 _ _ _ rfl hown s rfl ?d1 ?d2 ?d3 ?_)
  case d1 => simp [maxLen]; omega
  case d2 => simp; omega
  case d3 => simp
  intro v2 w2 hown2 hgrow2 _
  have hb2 := ((Below.refl w.heap.size w).alloc (by simp) _).grown hgrow2 (by simp) hb0
  clear hgrow2 hown hb0
  go_wp2
  go_ret
  refine ⟨_, rfl, ?_, hb2⟩
  unfold OwnB
  have e1 : (txtL s).length = [s.size.toUInt8].length + s.size := by rw [txtL_len]; simp; omega
  have e2 : u8s (txtL s) = u8s [s.size.toUInt8] ++ Lib.strCells s := by rfl
  rw [e1, e2]
  exact hown2
end Go.Proofs.YtghnbkkfghfifaaGreatDoor.E
