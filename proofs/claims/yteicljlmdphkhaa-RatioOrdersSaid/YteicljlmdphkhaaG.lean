/- The reference's long division, bit by bit. -/
import Derived.Test.YteicljlmdphkhaaF
import Derived.Deep.RegionWith
import Derived.Deep.CutRange
import Derived.Deep.LoopGhost
namespace Go.Proofs.Yteicljlmdphkhaa
open Go.RowKit
set_option linter.unusedVariables false
theorem bit_hi (m i : Nat) (h : i < 64) : (hi m / 2 ^ (63 - i)) % 2 = ((m / 2 ^ (127 - i) % 2 : Nat) : Int) := by
  unfold hi
  rw [U_pow]
  norm_cast
  rw [Nat.div_div_eq_div_mul, ← Nat.pow_add, show 64 + (63 - i) = 127 - i by omega]
theorem bit_lo (m i : Nat) (h : 64 ≤ i) (h2 : i < 128) : (lo m / 2 ^ (127 - i)) % 2 = ((m / 2 ^ (127 - i) % 2 : Nat) : Int) := by
  unfold lo
  rw [U_pow]
  norm_cast
  have e : m % 2 ^ 64 = m - 2 ^ 64 * (m / 2 ^ 64) := by omega
  obtain ⟨k, hk⟩ : ∃ k, k = 127 - i := ⟨_, rfl⟩
  rw [← hk]
  have e2 : 2 ^ 64 = 2 ^ k * (2 ^ (63 - k) * 2) := by
    rw [← Nat.pow_succ, ← Nat.pow_add, show k + (63 - k).succ = 64 by omega]
  conv => rhs; rw [show m = m % 2 ^ 64 + 2 ^ k * (2 ^ (63 - k) * 2 * (m / 2 ^ 64)) by rw [← Nat.mul_assoc (2 ^ k), ← e2]; omega]
  rw [Nat.add_mul_div_left _ _ (Nat.pow_pos (by decide)), Nat.mul_right_comm, Nat.add_mul_mod_self_right]
theorem hi_nonneg (m : Nat) : 0 ≤ hi m := by unfold hi; exact Int.natCast_nonneg _
theorem lo_nonneg (m : Nat) : 0 ≤ lo m := by unfold lo; exact Int.natCast_nonneg _
theorem hi_le (m : Nat) (h : m < U * U) : hi m ≤ 18446744073709551615 := by unfold hi; unfold U at *; omega
theorem lo_le (m : Nat) : lo m ≤ 18446744073709551615 := by unfold lo; unfold U at *; omega

theorem bit_any (m i bt : Nat) (a b c : Int) (hbt : m / 2 ^ (127 - i) % 2 = bt) (hi' : i < 128) (ha : a = hi m) (hb : b = lo m) (hc : c = i) (w : World) :
    Calls Try.prog 38 #[.agg #[.int .u64 a, .int .u64 b], .int .i64 c] w fun e w' => e = .returned (.int .u64 (bt : Int)) ∧ Below w.heap.size w w' := by
  subst ha hb hc
  have HBT := Lib.hid hbt
  clear hbt
  by_cases h : i < 64
  · have e := Lib.hid (bit_hi m i h)
    have h1 : 0 ≤ hi m / 2 ^ (63 - i) := Int.ediv_nonneg (hi_nonneg m) (Int.pow_nonneg (by decide))
    go_enter Try.func38, Try.ntmps38
    go_wp2
    rw [e.out, HBT.out]
    go_ret
    exact ⟨rfl, (Below.refl _ _).alloc (by simp) _⟩
  · have e := Lib.hid (bit_lo m i (by omega) hi')
    have h1 : 0 ≤ lo m / 2 ^ (127 - i) := Int.ediv_nonneg (lo_nonneg m) (Int.pow_nonneg (by decide))
    go_enter Try.func38, Try.ntmps38
    go_wp2
    rw [e.out, HBT.out]
    go_ret
    exact ⟨rfl, (Below.refl _ _).alloc (by simp) _⟩
/-- The division's own memory: what is divided, by what, both results, what came out, what is left. -/
structure DivMem (w : World) (B x d q r : Nat) : Prop where
  bx : Blk2 w B (.int .u64 (hi x)) (.int .u64 (lo x)) 34
  bd : Blk2 w (B + 1) (.int .u64 (hi d)) (.int .u64 (lo d)) 34
  b2 : Blk2 w (B + 1 + 1) (.int .u64 0) (.int .u64 0) 34
  b3 : Blk2 w (B + 1 + 1 + 1) (.int .u64 0) (.int .u64 0) 34
  bq : Blk2 w (B + 1 + 1 + 1 + 1) (.int .u64 (hi q)) (.int .u64 (lo q)) 34
  br : Blk2 w (B + 1 + 1 + 1 + 1 + 1) (.int .u64 (hi r)) (.int .u64 (lo r)) 34
theorem DivMem.lt {w : World} {B x d q r : Nat} (h : DivMem w B x d q r) : B + 1 + 1 + 1 + 1 + 1 < w.heap.size := h.br.lt
theorem DivMem.below {w w' : World} {B x d q r K : Nat} (h : DivMem w B x d q r) (hb : Below K w w') (hK : B + 1 + 1 + 1 + 1 + 1 < K) : DivMem w' B x d q r :=
  ⟨h.bx.below hb (by omega), h.bd.below hb (by omega), h.b2.below hb (by omega), h.b3.below hb (by omega), h.bq.below hb (by omega), h.br.below hb (by omega)⟩
theorem DivMem.drewN {w : World} {B x d q r : Nat} (h : DivMem w B x d q r) (n : Nat) : DivMem (w.drewN n) B x d q r := h.below (below_drewN (Below.refl _ _) n) h.lt
theorem DivMem.drew {w : World} {B x d q r : Nat} (h : DivMem w B x d q r) : DivMem w.drew B x d q r := h.below ((Below.refl _ _).drew) h.lt
theorem DivMem.setr {w : World} {B x d q r : Nat} (h : DivMem w B x d q r) (r' : Nat) : DivMem ((w.setCell ⟨B + 1 + 1 + 1 + 1 + 1, 0, none⟩ (.int .u64 (hi r'))).setCell ⟨B + 1 + 1 + 1 + 1 + 1, 1, none⟩ (.int .u64 (lo r'))) B x d q r' :=
  ⟨(h.bx.other (by simp <;> omega) _).other (by simp <;> omega) _, (h.bd.other (by simp) _).other (by simp) _, (h.b2.other (by simp) _).other (by simp) _, (h.b3.other (by simp) _).other (by simp) _, (h.bq.other (by simp) _).other (by simp) _, (h.br.set0 _).set1 _⟩
theorem DivMem.setq {w : World} {B x d q r : Nat} (h : DivMem w B x d q r) (q' : Nat) : DivMem ((w.setCell ⟨B + 1 + 1 + 1 + 1, 0, none⟩ (.int .u64 (hi q'))).setCell ⟨B + 1 + 1 + 1 + 1, 1, none⟩ (.int .u64 (lo q'))) B x d q' r :=
  ⟨(h.bx.other (by simp <;> omega) _).other (by simp <;> omega) _, (h.bd.other (by simp <;> omega) _).other (by simp <;> omega) _, (h.b2.other (by simp <;> omega) _).other (by simp <;> omega) _, (h.b3.other (by simp <;> omega) _).other (by simp <;> omega) _, (h.bq.set0 _).set1 _, (h.br.other (by simp <;> omega) _).other (by simp <;> omega) _⟩
/-- What the walk asks of it. -/
structure DivCells (w : World) (B x d q r : Nat) : Prop where
  x0 : w.cell? ⟨B, 0, none⟩ = some (.int .u64 (hi x))
  x1 : w.cell? ⟨B, 1, none⟩ = some (.int .u64 (lo x))
  d0 : w.cell? ⟨B + 1, 0, none⟩ = some (.int .u64 (hi d))
  d1 : w.cell? ⟨B + 1, 1, none⟩ = some (.int .u64 (lo d))
theorem DivMem.x {w : World} {B x d q r : Nat} (h : DivMem w B x d q r) : w.cell? ⟨B, 0, none⟩ = some (.int .u64 (hi x)) ∧ w.cell? ⟨B, 1, none⟩ = some (.int .u64 (lo x)) := ⟨h.bx.c0, h.bx.c1⟩
theorem DivMem.d {w : World} {B x d q r : Nat} (h : DivMem w B x d q r) : w.cell? ⟨B + 1, 0, none⟩ = some (.int .u64 (hi d)) ∧ w.cell? ⟨B + 1, 1, none⟩ = some (.int .u64 (lo d)) := ⟨h.bd.c0, h.bd.c1⟩

theorem divMem_start (w : World) (x d : Nat) : DivMem ((((((w.alloc (Obj.cells #[Value.int IntKind.u64 (hi x), Value.int IntKind.u64 (lo x)] 34)).alloc (Obj.cells #[Value.int IntKind.u64 (hi d), Value.int IntKind.u64 (lo d)] 34)).alloc (Obj.cells #[Value.int IntKind.u64 0, Value.int IntKind.u64 0] 34)).alloc (Obj.cells #[Value.int IntKind.u64 0, Value.int IntKind.u64 0] 34)).alloc (Obj.cells #[Value.int IntKind.u64 0, Value.int IntKind.u64 0] 34)).alloc (Obj.cells #[Value.int IntKind.u64 0, Value.int IntKind.u64 0] 34)) w.heap.size x d 0 0 := by
  have z1 : hi 0 = 0 := hi_small (by decide)
  have z2 : lo 0 = 0 := lo_small (by decide)
  have n1 := fun (w : World) (o : Obj) (v1 v2 : Value) (t : TypeId) => Blk2.new (w.alloc o) v1 v2 t
  have sz : ∀ (w : World) (o : Obj), (w.alloc o).heap.size = w.heap.size + 1 := fun w o => by simp
  constructor
  · exact (((((Blk2.new w _ _ _).alloc _).alloc _).alloc _).alloc _).alloc _
  · have h := Blk2.new (w.alloc (Obj.cells #[Value.int IntKind.u64 (hi x), Value.int IntKind.u64 (lo x)] 34)) (Value.int IntKind.u64 (hi d)) (Value.int IntKind.u64 (lo d)) 34
    rw [sz] at h
    exact (((h.alloc _).alloc _).alloc _).alloc _
  · have h := Blk2.new ((w.alloc (Obj.cells #[Value.int IntKind.u64 (hi x), Value.int IntKind.u64 (lo x)] 34)).alloc (Obj.cells #[Value.int IntKind.u64 (hi d), Value.int IntKind.u64 (lo d)] 34)) (Value.int IntKind.u64 0) (Value.int IntKind.u64 0) 34
    rw [sz, sz] at h
    exact ((h.alloc _).alloc _).alloc _
  · have h := Blk2.new (((w.alloc (Obj.cells #[Value.int IntKind.u64 (hi x), Value.int IntKind.u64 (lo x)] 34)).alloc (Obj.cells #[Value.int IntKind.u64 (hi d), Value.int IntKind.u64 (lo d)] 34)).alloc (Obj.cells #[Value.int IntKind.u64 0, Value.int IntKind.u64 0] 34)) (Value.int IntKind.u64 0) (Value.int IntKind.u64 0) 34
    rw [sz, sz, sz] at h
    exact (h.alloc _).alloc _
  · have h := Blk2.new ((((w.alloc (Obj.cells #[Value.int IntKind.u64 (hi x), Value.int IntKind.u64 (lo x)] 34)).alloc (Obj.cells #[Value.int IntKind.u64 (hi d), Value.int IntKind.u64 (lo d)] 34)).alloc (Obj.cells #[Value.int IntKind.u64 0, Value.int IntKind.u64 0] 34)).alloc (Obj.cells #[Value.int IntKind.u64 0, Value.int IntKind.u64 0] 34)) (Value.int IntKind.u64 0) (Value.int IntKind.u64 0) 34
    rw [sz, sz, sz, sz] at h
    rw [z1, z2]
    exact h.alloc _
  · have h := Blk2.new (((((w.alloc (Obj.cells #[Value.int IntKind.u64 (hi x), Value.int IntKind.u64 (lo x)] 34)).alloc (Obj.cells #[Value.int IntKind.u64 (hi d), Value.int IntKind.u64 (lo d)] 34)).alloc (Obj.cells #[Value.int IntKind.u64 0, Value.int IntKind.u64 0] 34)).alloc (Obj.cells #[Value.int IntKind.u64 0, Value.int IntKind.u64 0] 34)).alloc (Obj.cells #[Value.int IntKind.u64 0, Value.int IntKind.u64 0] 34)) (Value.int IntKind.u64 0) (Value.int IntKind.u64 0) 34
    rw [sz, sz, sz, sz, sz] at h
    rw [z1, z2]
    exact h
theorem UU_pow : U * U = 2 ^ 128 := by decide
theorem div_start1 (x d : Nat) (h : x < U * U) : 0 = x / 2 ^ (128 - 0) / d := by
  rw [UU_pow] at h; rw [Nat.div_eq_of_lt h, Nat.zero_div]
theorem div_start2 (x d : Nat) (h : x < U * U) : 0 = x / 2 ^ (128 - 0) % d := by
  rw [UU_pow] at h; rw [Nat.div_eq_of_lt h, Nat.zero_mod]
theorem div_half (x i : Nat) (h : i < 128) : x / 2 ^ (127 - i) = 2 * (x / 2 ^ (128 - i)) + x / 2 ^ (127 - i) % 2 := by
  have : x / 2 ^ (128 - i) = x / 2 ^ (127 - i) / 2 := by rw [Nat.div_div_eq_div_mul, ← Nat.pow_succ, show (127 - i).succ = 128 - i by omega]
  omega
theorem div_step1 (x d q r i b : Nat) (h : i < 128) (hb : b = x / 2 ^ (127 - i) % 2) (hq : q = x / 2 ^ (128 - i) / d) (hr : r = x / 2 ^ (128 - i) % d) (hl : r + r + b < d) : q + q = x / 2 ^ (127 - i) / d ∧ r + r + b = x / 2 ^ (127 - i) % d := by
  have e := div_half x i h
  have e2 := Nat.div_add_mod (x / 2 ^ (128 - i)) d
  rw [← hb] at e
  rw [← hq, ← hr] at e2
  have e3 : x / 2 ^ (127 - i) = (r + r + b) + d * (q + q) := by rw [e, ← e2, Nat.mul_add d q q]; omega
  rw [e3, Nat.add_mul_div_left _ _ (by omega), Nat.add_mul_mod_self_left, Nat.div_eq_of_lt hl, Nat.mod_eq_of_lt hl]
  exact ⟨by omega, rfl⟩
theorem div_step2 (x d q r i b : Nat) (hd : 0 < d) (h : i < 128) (hb : b = x / 2 ^ (127 - i) % 2) (hq : q = x / 2 ^ (128 - i) / d) (hr : r = x / 2 ^ (128 - i) % d) (hl : ¬ r + r + b < d) : q + q + 1 = x / 2 ^ (127 - i) / d ∧ r + r + b - d = x / 2 ^ (127 - i) % d := by
  have e := div_half x i h
  have e2 := Nat.div_add_mod (x / 2 ^ (128 - i)) d
  have hrd : r < d := by rw [hr]; exact Nat.mod_lt _ hd
  have hb2 : b < 2 := by omega
  rw [← hb] at e
  rw [← hq, ← hr] at e2
  have e3 : x / 2 ^ (127 - i) = (r + r + b - d) + d * (q + q + 1) := by rw [e, ← e2, Nat.mul_add d (q + q) 1, Nat.mul_add d q q, Nat.mul_one]; omega
  have hl2 : r + r + b - d < d := by omega
  rw [e3, Nat.add_mul_div_left _ _ hd, Nat.add_mul_mod_self_left, Nat.div_eq_of_lt hl2, Nat.mod_eq_of_lt hl2]
  exact ⟨by omega, rfl⟩
theorem div_small' (x d i q : Nat) (hx : x < U * U) (hd : 0 < d) (h : i < 128) (hq : q = x / 2 ^ (128 - i) / d) : q + q + 1 < U * U := by
  have h1 : x / 2 ^ (128 - i) / d ≤ x / 2 ^ (128 - i) := Nat.div_le_self _ _
  have h2 : x / 2 ^ (128 - i) ≤ x / 2 ^ 1 := Nat.div_le_div_left (Nat.pow_le_pow_right (by decide) (by omega)) (by decide)
  rw [← hq] at h1
  unfold U at hx ⊢
  omega
theorem div_small (x d i q : Nat) (hx : x < U * U) (hd : 0 < d) (h : i < 128) (hq : q = x / 2 ^ (128 - i) / d) : 2 * q + 1 ≤ U * U := by
  have h1 : x / 2 ^ (128 - i) / d ≤ x / 2 ^ (128 - i) := Nat.div_le_self _ _
  have h2 : x / 2 ^ (128 - i) ≤ x / 2 ^ 1 := Nat.div_le_div_left (Nat.pow_le_pow_right (by decide) (by omega)) (by decide)
  omega

set_option maxRecDepth 100000 in
set_option maxHeartbeats 1000000 in
theorem rdivide_any (x d : Nat) (a b c e : Int) (hx : x < U * U) (hd0 : 0 < d) (hd : 2 * d ≤ U * U) (ha : a = hi x) (hb : b = lo x) (hc : c = hi d) (he : e = lo d) (w : World) :
    Calls Try.prog 30 #[.agg #[.int .u64 a, .int .u64 b], .agg #[.int .u64 c, .int .u64 e]] w fun e w' => e = .returned (.tuple #[.agg #[.int .u64 (hi (x / d)), .int .u64 (lo (x / d))], .agg #[.int .u64 (hi (x % d)), .int .u64 (lo (x % d))]]) ∧ Below w.heap.size w w' := by
  subst ha hb hc he
  have Hx := Lib.hid hx
  have Hd0 := Lib.hid hd0
  have Hd := Lib.hid hd
  clear hx hd0 hd
  go_enter Try.func30, Try.ntmps30
  go_wp2
  go_loopg [8] 128 (fun g iv wr => ∃ i q r : Nat, iv = .int .i64 i ∧ g + i = 128 ∧ Hid (q = x / 2 ^ (128 - i) / d) ∧ Hid (r = x / 2 ^ (128 - i) % d) ∧ DivMem wr w.heap.size x d q r ∧ Below w.heap.size w wr)
  case atStart =>
    refine ⟨0, 0, 0, rfl, rfl, Lib.hid (div_start1 x d Hx.out), Lib.hid (div_start2 x d Hx.out), ?_, ?_⟩
    · exact divMem_start w x d
    · exact (((((((Below.refl _ _).alloc (by simp) _).alloc (by simp) _).alloc (by simp <;> omega) _).alloc (by simp <;> omega) _).alloc (by simp <;> omega) _).alloc (by simp <;> omega) _)
  case round =>
    obtain ⟨i, q, r, rfl, hg, hq, hr, M, bw⟩ := hrel
    have hrd : r < d := by rw [hr.out]; exact Nat.mod_lt _ Hd0.out
    have hrU : r < U * U := by have := Hd.out; omega
    have HR := Lib.hid hrd
    have HRU := Lib.hid hrU
    clear hrd hrU
    by_cases hi' : i < 128
    · obtain ⟨bt, hbt⟩ : ∃ b, b = x / 2 ^ (127 - i) % 2 := ⟨_, rfl⟩
      have HB := Lib.hid hbt
      have hb1 : bt < 2 := by omega
      have s1 := div_step1 x d q r i bt hi' hbt hq.out hr.out
      have s2 := div_step2 x d q r i bt Hd0.out hi' hbt hq.out hr.out
      have HS1 := Lib.hid s1
      have HS2 := Lib.hid s2
      have hq2 : Hid (2 * q + 1 ≤ U * U) := by have := div_small x d i q Hx.out Hd0.out hi' hq.out; exact Lib.hid (by omega)
      have hq3 : Hid (q + q + 1 < U * U) := Lib.hid (div_small' x d i q Hx.out Hd0.out hi' hq.out)
      have hrU2 : Hid (r + r < U * U - 1) := Lib.hid (by have := HR.out; have := Hd.out; omega)
      clear s1 s2 hbt
      obtain ⟨cr0, cr1, fr0, fr1⟩ := M.br.all
      go_wp2_with fail
      refine (rplus_any r r (r + r) _ _ _ _ HRU.out HRU.out (Nat.mod_eq_of_lt (by have := hrU2.out; omega)) rfl rfl rfl rfl _).mono ?_
      rintro e w1 ⟨rfl, hb1'⟩
      have M1 := M.below hb1' M.lt
      have bw1 := bw.trans (hb1'.mono bw.size)
      clear M bw hb1' cr0 cr1 fr0 fr1
      obtain ⟨cr0, cr1, fr0, fr1⟩ := M1.br.all
      have hsz := M1.lt
      go_upto_region 6 with fail
      have M2 := M1.setr (r + r)
      have bw2 := (bw1.setCell (p := ⟨w.heap.size + 1 + 1 + 1 + 1 + 1, 0, none⟩) (by simp <;> omega) (.int .u64 (hi (r + r)))).setCell (p := ⟨w.heap.size + 1 + 1 + 1 + 1 + 1, 1, none⟩) (by simp <;> omega) (.int .u64 (lo (r + r)))
      generalize (w1.setCell _ _).setCell _ _ = wz at M2 bw2 ⊢
      clear cr0 cr1 fr0 fr1 M1 bw1 hsz
      obtain ⟨x0, x1⟩ := M2.x
      obtain ⟨cr0, cr1, fr0, fr1⟩ := M2.br.all
      have hsz := M2.lt
      go_cut [8] from 11 to 36 (fun iv wx => iv = .int .i64 i ∧ DivMem wx w.heap.size x d q (r + r + bt) ∧ Below w.heap.size w wx)
      case first =>
        go_region_with (first
          | (go_at_call 38; refine (bit_any x i bt _ _ _ HB.out.symm hi' rfl rfl rfl _).mono ?_; rintro e w3 ⟨rfl, hb3⟩; have M3 := M2.drew.below hb3 M2.lt; have bw3 := bw2.drew.trans (hb3.mono bw2.size); clear x0 x1 cr0 cr1 fr0 fr1 hsz; obtain ⟨cr0, cr1, fr0, fr1⟩ := M3.br.all; have hsz := M3.lt)
          | (go_at_call 28; refine (rplus_any (r + r) bt (r + r + bt) _ _ _ _ (by have := hrU2.out; omega) (by have := hrU2.out; omega) (Nat.mod_eq_of_lt (by have := hrU2.out; omega)) rfl rfl (hi_small (by unfold U; omega)).symm (lo_small (by unfold U; omega)).symm _).mono ?_; rintro e w4 ⟨rfl, hb4⟩; have M4 := M3.below hb4 M3.lt; have bw4 := bw3.trans (hb4.mono bw3.size); clear cr0 cr1 fr0 fr1 hsz; obtain ⟨cr0, cr1, fr0, fr1⟩ := M4.br.all; have hsz := M4.lt))
        all_goals (go_wp2_with fail)
        all_goals (go_meet; exact ⟨rfl, M4.setr _, (bw4.setCell (by simp <;> omega) _).setCell (by simp <;> omega) _⟩)
      case rest =>
        obtain ⟨rfl, M, bw⟩ := hcut
        obtain ⟨cq0, cq1, fq0, fq1⟩ := M.bq.all
        have hsz := M.lt
        go_wp2_with fail
        refine (rplus_any q q (q + q) _ _ _ _ (by have := hq2.out; omega) (by have := hq2.out; omega) (Nat.mod_eq_of_lt (by have := hq2.out; omega)) rfl rfl rfl rfl _).mono ?_
        rintro e w2 ⟨rfl, hb2⟩
        have M1 := (M.below hb2 M.lt).setq (q + q)
        have bw1 := ((bw.trans (hb2.mono bw.size)).setCell (p := ⟨w.heap.size + 1 + 1 + 1 + 1, 0, none⟩) (by simp <;> omega) (.int .u64 (hi (q + q)))).setCell (p := ⟨w.heap.size + 1 + 1 + 1 + 1, 1, none⟩) (by simp <;> omega) (.int .u64 (lo (q + q)))
        have M0 := M.below hb2 M.lt
        clear cq0 cq1 fq0 fq1 hsz M bw hb2
        obtain ⟨cq0, cq1, fq0, fq1⟩ := M0.bq.all
        obtain ⟨cr0, cr1, fr0, fr1⟩ := M0.br.all
        obtain ⟨d0, d1⟩ := M0.d
        have hsz := M0.lt
        clear M0
        go_wp2_with fail
        refine (less_any (r + r + bt) d _ _ _ _ rfl rfl rfl rfl _).mono ?_
        rintro e w3 ⟨rfl, hb3⟩
        have M2 := M1.below hb3 M1.lt
        have bw2 := bw1.trans (hb3.mono bw1.size)
        clear cq0 cq1 fq0 fq1 cr0 cr1 fr0 fr1 d0 d1 hsz M1 bw1 hb3
        obtain ⟨cq0, cq1, fq0, fq1⟩ := M2.bq.all
        obtain ⟨cr0, cr1, fr0, fr1⟩ := M2.br.all
        obtain ⟨d0, d1⟩ := M2.d
        have hsz := M2.lt
        by_cases hlt : r + r + bt < d
        · have hl : lt (r + r + bt) d = true := by unfold lt; simpa using hlt
          have fin := Lib.hid (HS1.out hlt)
          clear hlt
          go_wp2
          go_roundg (gk - 1)
          case measure => omega
          case rel =>
            refine ⟨i + 1, q + q, r + r + bt, by go_num, by omega, Lib.hid ?_, Lib.hid ?_, M2, bw2⟩
            · rw [fin.out.1, show 128 - (i + 1) = 127 - i by omega]
            · rw [fin.out.2, show 128 - (i + 1) = 127 - i by omega]
        · have hl : lt (r + r + bt) d = false := by unfold lt; simpa using hlt
          have fin := Lib.hid (HS2.out hlt)
          have hge : Hid (d ≤ r + r + bt) := Lib.hid (by omega)
          clear hlt
          go_wp2_with fail
          refine (minus_any (r + r + bt) d (r + r + bt - d) _ _ _ _ (by have := hrU2.out; omega) hge.out rfl rfl rfl rfl rfl _).mono ?_
          rintro e w4 ⟨rfl, hb4⟩
          have M0 := M2.below hb4 M2.lt
          have M3 := M0.setr (r + r + bt - d)
          have bw3 := ((bw2.trans (hb4.mono bw2.size)).setCell (p := ⟨w.heap.size + 1 + 1 + 1 + 1 + 1, 0, none⟩) (by simp <;> omega) (.int .u64 (hi (r + r + bt - d)))).setCell (p := ⟨w.heap.size + 1 + 1 + 1 + 1 + 1, 1, none⟩) (by simp <;> omega) (.int .u64 (lo (r + r + bt - d)))
          clear cq0 cq1 fq0 fq1 cr0 cr1 fr0 fr1 d0 d1 hsz M2 bw2 hb4
          obtain ⟨cq0, cq1, fq0, fq1⟩ := M0.bq.all
          obtain ⟨cr0, cr1, fr0, fr1⟩ := M0.br.all
          have hsz := M0.lt
          clear M0
          go_wp2_with fail
          refine (rplus_any (q + q) 1 (q + q + 1) _ _ _ _ (by have := hq2.out; omega) (by decide) (Nat.mod_eq_of_lt (by have := hq3.out; omega)) rfl rfl (hi_small (by decide)).symm (by decide) _).mono ?_
          rintro e w5 ⟨rfl, hb5⟩
          have M4 := M3.below hb5 M3.lt
          have bw4 := bw3.trans (hb5.mono bw3.size)
          clear cq0 cq1 fq0 fq1 cr0 cr1 fr0 fr1 hsz M3 bw3 hb5
          obtain ⟨cq0, cq1, fq0, fq1⟩ := M4.bq.all
          have hsz := M4.lt
          go_wp2
          go_roundg (gk - 1)
          case measure => omega
          case rel =>
            refine ⟨i + 1, q + q + 1, r + r + bt - d, by go_num, by omega, Lib.hid ?_, Lib.hid ?_, M4.setq _, (bw4.setCell (by simp <;> omega) _).setCell (by simp <;> omega) _⟩
            · rw [fin.out.1, show 128 - (i + 1) = 127 - i by omega]
            · rw [fin.out.2, show 128 - (i + 1) = 127 - i by omega]
    · have hi2 : i = 128 := by omega
      subst hi2
      obtain ⟨cq0, cq1, fq0, fq1⟩ := M.bq.all
      obtain ⟨cr0, cr1, fr0, fr1⟩ := M.br.all
      obtain ⟨c20, c21, f20, f21⟩ := M.b2.all
      obtain ⟨c30, c31, f30, f31⟩ := M.b3.all
      have hsz := M.lt
      have hq' : q = x / d := by have := hq.out; simpa using this
      have hr' : r = x % d := by have := hr.out; simpa using this
      have HQ := Lib.hid hq'
      have HR' := Lib.hid hr'
      clear hq' hr' hi' hg
      go_wp2
      go_region
      all_goals (try go_wp2)
      rw [← HQ.out, ← HR'.out]
      refine bodyPost_ret (v := .tuple #[.agg #[.int .u64 (hi q), .int .u64 (lo q)], .agg #[.int .u64 (hi r), .int .u64 (lo r)]]) (by simp [results, Try.results30, go_sem, c20, c21, c30, c31]) rfl ⟨rfl, ?_⟩
      exact ((((bw.setCell (by simp <;> omega) _).setCell (by simp <;> omega) _).setCell (by simp <;> omega) _).setCell (by simp <;> omega) _).drew
end Go.Proofs.Yteicljlmdphkhaa
