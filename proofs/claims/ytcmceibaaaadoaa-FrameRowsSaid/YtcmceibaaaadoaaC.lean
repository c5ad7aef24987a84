/- The program's sum, number, putNumber. -/
import Derived.Test.YtcmceibaaaadoaaA
namespace Go.Proofs.Ytcmceibaaaadoaa
open Go.RowKit
set_option linter.unusedVariables false
theorem or16 (a b : Nat) (h : a < 65536) : b * 65536 ||| a = b * 65536 + a := by
  have := Nat.two_pow_add_eq_or_of_lt (i := 16) (b := a) (by omega) b
  rw [Nat.mul_comm b, ← this]
theorem or8 (a b : Nat) (h : a < 256) : b * 256 ||| a = b * 256 + a := by
  have := Nat.two_pow_add_eq_or_of_lt (i := 8) (b := a) (by omega) b
  rw [Nat.mul_comm b, ← this]
theorem or16i (a b : Nat) (h : a < 65536) (hb : b < 65536) : bits .or .u32 ((b : Int) * 65536) (a : Int) = (b : Int) * 65536 + a := by
  have := u32_or_nat (b * 65536) a (by omega) (by omega)
  rw [or16 a b h] at this
  simpa using this
theorem or8i (a b : Nat) (h : a < 256) (hb : b < 16777216) : bits .or .u32 ((b : Int) * 256) (a : Int) = ((b * 256 + a : Nat) : Int) := by
  have := u32_or_nat (b * 256) a (by omega) (by omega)
  rw [or8 a b h] at this
  simpa using this
set_option maxRecDepth 100000 in
theorem sum_any (v : Value) (l : List UInt8) (B : Nat) (hl : l.length ≤ 1000000000) (w : World) (hv : Seen w B v l) :
    Calls Try.prog 19 #[v] w fun e w' => e = .returned (.int .u32 (sumN l : Nat)) ∧ w' = w := by
  obtain ⟨q, cap, rfl, _⟩ := hv.len
  have HV := Lib.hid hv
  clear hv
  go_enter Try.func19, Try.ntmps19
  go_wp2
  go_loop [3, 4, 9] (fun a b i => ∃ k : Nat, k ≤ l.length ∧ i = .int .i64 k ∧ a = .int .u32 ((sumP (l.take k)).1 : Nat) ∧ b = .int .u32 ((sumP (l.take k)).2 : Nat)) (fun a b i => l.length - (intOf i).toNat)
  case atStart => exact ⟨0, Nat.zero_le _, rfl, rfl, rfl⟩
  case round =>
    obtain ⟨k, hk, rfl, rfl, rfl⟩ := hrel
    have hs := sumP_lt (l.take k)
    by_cases hlt : k < l.length
    · obtain ⟨ad, rfl, _, hc⟩ := HV.out.at k hlt
      have hx := (l[k]).toNat_lt
      have hstep : sumP (l.take (k + 1)) = stepS (sumP (l.take k)) l[k] := by rw [List.take_succ_eq_append_getElem hlt, sumP_snoc]
      obtain ⟨a, ha⟩ : ∃ a, (sumP (l.take k)).1 = a := ⟨_, rfl⟩
      obtain ⟨b, hb⟩ : ∃ b, (sumP (l.take k)).2 = b := ⟨_, rfl⟩
      obtain ⟨x, hxx⟩ : ∃ x, (l[k]).toNat = x := ⟨_, rfl⟩
      unfold stepS at hstep
      rw [ha, hb, hxx] at hstep
      rw [ha, hb] at hs
      rw [ha, hb]
      rw [hxx] at hc hx
      have HS := Lib.hid hstep
      clear hstep ha hb hxx
      obtain ⟨h1, h2⟩ := hs
      go_wp2
      go_round
      case rel =>
        refine ⟨k + 1, by omega, by go_num, ?_, ?_⟩
        · rw [HS.out]; simp
        · rw [HS.out]; simp
      case measure => simp [intOf]; omega
    · have e : l.take k = l := List.take_of_length_le (by omega)
      rw [e] at hs ⊢
      have hres : sumN l = (sumP l).2 * 65536 + (sumP l).1 := rfl
      obtain ⟨a, ha⟩ : ∃ a, (sumP l).1 = a := ⟨_, rfl⟩
      obtain ⟨b, hb⟩ : ∃ b, (sumP l).2 = b := ⟨_, rfl⟩
      rw [ha, hb] at hs hres ⊢
      have HR := Lib.hid hres
      clear ha hb e hres
      obtain ⟨h1, h2⟩ := hs
      go_wp2
      go_ret
      refine ⟨?_, rfl⟩
      rw [HR.out]
      simp [or16i a b (by omega) (by omega)]
set_option maxRecDepth 100000 in
theorem number_any (v : Value) (l : List UInt8) (B : Nat) (hl : l.length ≤ 4) (w : World) (hv : Seen w B v l) :
    Calls Try.prog 24 #[v] w fun e w' => e = .returned (.int .u32 (valN l : Nat)) ∧ w' = w := by
  obtain ⟨q, cap, rfl, _⟩ := hv.len
  have HV := Lib.hid hv
  clear hv
  go_enter Try.func24, Try.ntmps24
  go_wp2
  go_loop [3, 8] (fun a i => ∃ k : Nat, k ≤ l.length ∧ i = .int .i64 k ∧ a = .int .u32 (valN (l.take k) : Nat)) (fun a i => l.length - (intOf i).toNat)
  case atStart => exact ⟨0, Nat.zero_le _, rfl, rfl⟩
  case round =>
    obtain ⟨k, hk, rfl, rfl⟩ := hrel
    by_cases hlt : k < l.length
    · obtain ⟨ad, rfl, _, hc⟩ := HV.out.at k hlt
      have hx := (l[k]).toNat_lt
      have hstep : valN (l.take (k + 1)) = valN (l.take k) * 256 + (l[k]).toNat := by rw [List.take_succ_eq_append_getElem hlt, valN_snoc]
      have hlo : valN (l.take k) < 16777216 := by
        have h1 := valN_lt k (l.take k) (by rw [List.length_take]; omega)
        have h2 : 256 ^ k ≤ 256 ^ 3 := Nat.pow_le_pow_right (by omega) (by omega)
        omega
      obtain ⟨a, ha⟩ : ∃ a, valN (l.take k) = a := ⟨_, rfl⟩
      obtain ⟨x, hxx⟩ : ∃ x, (l[k]).toNat = x := ⟨_, rfl⟩
      rw [ha, hxx] at hstep
      rw [ha] at hlo ⊢
      rw [hxx] at hc hx
      have HS := Lib.hid hstep
      have ho := or8i x a (by omega) hlo
      clear hstep ha hxx
      obtain ⟨y, hy⟩ : ∃ y, a * 256 + x = y := ⟨_, rfl⟩
      rw [hy] at ho
      have HY := Lib.hid hy
      clear hy
      go_wp2
      go_round
      case rel => exact ⟨k + 1, by omega, by go_num, by rw [HS.out, HY.out]⟩
      case measure => simp [intOf]; omega
    · have e : l.take k = l := List.take_of_length_le (by omega)
      rw [e]
      obtain ⟨a, ha⟩ : ∃ a, valN l = a := ⟨_, rfl⟩
      rw [ha]
      go_wp2
      go_ret
      exact ⟨rfl, rfl⟩
/-- A row of k bytes, its room told. -/
def RowB (w : World) (g cap k : Nat) (l : List UInt8) : Prop := w.ownsRow g 5 1 (.slice (some ⟨g, 0, none⟩) k cap) k (u8s l)
theorem RowB.len {w : World} {g cap k : Nat} {l : List UInt8} (h : RowB w g cap k l) : l.length = k := by
  have := h.1
  rw [u8s_len] at this
  omega
theorem RowB.own {w : World} {g cap k : Nat} {l : List UInt8} (h : RowB w g cap k l) : OwnB w g (.slice (some ⟨g, 0, none⟩) k cap) l := by
  have e := h.len
  unfold RowB at h
  unfold OwnB
  rw [e]
  exact h
theorem be_step (count m n : Nat) (h : m < count) : beL (m + 1) (n / 256 ^ (count - (m + 1))) = beL m (n / 256 ^ (count - m)) ++ [(n / 256 ^ (count - (m + 1)) % 256).toUInt8] := by
  conv => lhs; unfold beL
  rw [Nat.div_div_eq_div_mul, ← Nat.pow_succ, show (count - (m + 1)).succ = count - m by omega]
theorem be_val (count m n : Nat) (h : m < count) : ((n : Int) / 2 ^ (8 * (count - m - 1)) % 256) = ((((n / 256 ^ (count - (m + 1)) % 256).toUInt8).toNat : Nat) : Int) := by
  have e : ∀ k : Nat, (256 : Nat) ^ k = 2 ^ (8 * k) := fun k => by rw [Nat.pow_mul]
  rw [← u8_nat (Nat.mod_lt _ (by omega)), show count - m - 1 = count - (m + 1) by omega, e]
  generalize 8 * (count - (m + 1)) = d
  rw [Int.natCast_emod, Int.natCast_ediv, Int.natCast_pow]
  rfl
theorem bcell1 (w : World) (x : Value) : ∀ (j : Nat) (u : Value), [x][j]? = some u → (w.alloc (.cells #[x] 5)).cell? ((⟨w.heap.size, 0, none⟩ : Addr).add j) = some u := cell_one w x 5
set_option maxRecDepth 100000 in
theorem putNumber_any (g cap n count k : Nat) (hc : count ≤ 4) (l : List UInt8) (hcap : k + count ≤ cap) (hgz : cap ≤ 1000000000) (w : World) (hown : RowB w g cap k l) (hn : n < 4294967296) :
    Calls Try.prog 18 #[.slice (some ⟨g, 0, none⟩) k cap, .int .u32 n, .int .i64 count] w fun e w' => e = .returned (.slice (some ⟨g, 0, none⟩) (k + count) cap) ∧ RowB w' g cap (k + count) (l ++ beL count n) ∧ w.grownBy w' (some g) := by
  obtain ⟨i0, hi, hz0, hz1, hz2⟩ := info_parts info5
  go_enter Try.func18, Try.ntmps18
  go_wp2
  go_loopw [0, 7] (fun u c wr => ∃ m : Nat, m ≤ count ∧ c = .int .i64 ((count : Int) - m - 1) ∧ u = .slice (some ⟨g, 0, none⟩) (k + m) cap ∧ RowB wr g cap (k + m) (l ++ beL m (n / 256 ^ (count - m))) ∧ w.grownBy wr (some g)) (fun _ c _ => (intOf c + 1).toNat)
  case atStart => exact ⟨0, by omega, by simp, rfl, by simpa [beL] using hown, World.grownBy.refl _ _⟩
  case round =>
    obtain ⟨m, hm, rfl, rfl, hr, hg⟩ := hrel
    by_cases hlt : m < count
    · have HV := Lib.hid (be_val count m n hlt)
      have HB := Lib.hid (be_step count m n hlt)
      unfold RowB at hr
      have hgr := hg.size
      have hgw : g < wr.heap.size := hr.lt g rfl |>.2
      go_wp2_with (at_builtin; refine wpList_append_fits _ rfl (.tmp 14) (.tmp 20) 22 rfl g 5 i0 1 Try.underlying22 hi hz1 g (k + m) cap _ rfl (hr.alloc _) ⟨wr.heap.size, 0, none⟩ 1 1 [.int .u8 ((n : Int) / 2 ^ (8 * (count - m - 1)) % 256)] rfl rfl ?c1 ?c2 ?c3 ?_)
      case c1 => exact cell_one _ _ _
      case c2 => intro u hu; simp at hu; subst hu; rfl
      case c3 => omega
      intro w1 hown1 hgrow1
      have hg1 : w.grownBy w1 (some g) := by
        refine ⟨hgrow1.os.trans hg.os, hgrow1.tape.trans hg.tape, hgrow1.output.trans hg.output, ?_, fun i hi hne => ?_⟩
        · have := hgrow1.size; simp at this; omega
        · rw [hgrow1.block i (by simp; omega) hne, Below.heap_alloc _ _ _ (by omega), hg.block i hi hne]
      clear hgrow1 hr hg
      go_wp2
      go_roundw
      case rel =>
        refine ⟨m + 1, by omega, by go_num, rfl, ?_, hg1⟩
        unfold RowB
        rw [HB.out, ← List.append_assoc, u8s_app (l ++ _)]
        rw [HV.out] at hown1
        exact hown1
      case measure => simp [intOf]; omega
    · obtain rfl : m = count := by omega
      have HR := Lib.hid hr
      have HG := Lib.hid hg
      clear hr hg
      go_wp2
      go_ret
      refine ⟨rfl, ?_, HG.out⟩
      have := HR.out
      simpa using this
end Go.Proofs.Ytcmceibaaaadoaa
