/- The reader: numbers. -/
import Derived.Test.YtghnbkkfghfifaaGreatDoorEV
import Derived.Laws.BitsAllLaws
namespace Go.Proofs.YtghnbkkfghfifaaGreatDoor.E
open Go.RowKit
set_option linter.unusedVariables false
def accN (i n : Nat) (y : Rd Unit) : Rd Nat := (y.bind fun _ l => rdNumF (6 - i) (decide (0 < i)) l).bind fun m r => .ok (n + 128 ^ i * m) r
theorem Rd.bind_assoc {α β γ : Type} (x : Rd α) (f : α → List UInt8 → Rd β) (g : β → List UInt8 → Rd γ) : (x.bind f).bind g = x.bind fun a r => (f a r).bind g := by cases x <;> rfl
theorem acc_start (x : Rd Unit) : rNum x = accN 0 0 x := by
  unfold rNum accN rdNum
  cases x with
  | bad c => rfl
  | ok u l =>
    show rdNumF 6 false l = (rdNumF 6 false l).bind _
    cases rdNumF 6 false l with
    | bad c => rfl
    | ok m r => show Rd.ok m r = Rd.ok (0 + 128 ^ 0 * m) r; simp
theorem acc_bad (i n : Nat) (c : Int) : accN i n (.bad c) = .bad c := rfl
theorem acc_nil (i n : Nat) (hi : i < 6) (u : Unit) : accN i n (.ok u []) = .bad 3 := by
  unfold accN
  obtain ⟨f, hf⟩ : ∃ f, 6 - i = f + 1 := ⟨5 - i, by omega⟩
  rw [hf]; rfl
theorem acc_zero (i n : Nat) (hi : i < 6) (h0 : 0 < i) (u : Unit) (c : UInt8) (hc : c.toNat = 0) (r : List UInt8) : accN i n (.ok u (c :: r)) = .bad 2 := by
  unfold accN
  obtain ⟨f, hf⟩ : ∃ f, 6 - i = f + 1 := ⟨5 - i, by omega⟩
  rw [hf, decide_eq_true h0]
  show (rdNumF (f + 1) true (c :: r)).bind _ = _
  unfold rdNumF
  rw [if_pos (by omega), if_pos ⟨hc, rfl⟩]; rfl
theorem acc_last (i n : Nat) (hi : i < 6) (u : Unit) (c : UInt8) (hc : c.toNat < 128) (h0 : ¬ (c.toNat = 0 ∧ 0 < i)) (r : List UInt8) : accN i n (.ok u (c :: r)) = .ok (n + 128 ^ i * c.toNat) r := by
  unfold accN
  obtain ⟨f, hf⟩ : ∃ f, 6 - i = f + 1 := ⟨5 - i, by omega⟩
  rw [hf]
  show (rdNumF (f + 1) (decide (0 < i)) (c :: r)).bind _ = _
  unfold rdNumF
  rw [if_pos hc, if_neg (fun h => h0 ⟨h.1, by simpa using h.2⟩)]; rfl
theorem acc_next (i n : Nat) (hi : i < 6) (u : Unit) (c : UInt8) (hc : ¬ c.toNat < 128) (r : List UInt8) : accN i n (.ok u (c :: r)) = accN (i + 1) (n + 128 ^ i * (c.toNat % 128)) (.ok () r) := by
  unfold accN
  obtain ⟨f, hf⟩ : ∃ f, 6 - i = f + 1 := ⟨5 - i, by omega⟩
  rw [hf, show 6 - (i + 1) = f by omega, decide_eq_true (show 0 < i + 1 by omega)]
  show (rdNumF (f + 1) (decide (0 < i)) (c :: r)).bind _ = (rdNumF f true r).bind _
  conv => lhs; unfold rdNumF
  rw [if_neg hc, Rd.bind_assoc]
  congr 1
  funext m r'
  show Rd.ok _ r' = Rd.ok _ r'
  congr 1
  rw [Nat.pow_succ, Nat.mul_add, Nat.mul_assoc, Nat.add_assoc]
theorem acc_end (n : Nat) (y : Rd Unit) (u : Unit) (l : List UInt8) (h : y = .ok u l) : accN 6 n y = .bad 2 := by subst h; rfl
theorem i64_or_nat (a b : Nat) (ha : a < 9223372036854775808) (hb : b < 9223372036854775808) : bits .or .i64 (a : Int) (b : Int) = ((a ||| b : Nat) : Int) := by
  have hx : a ||| b < 2 ^ 63 := Nat.or_lt_two_pow (by omega) (by omega)
  show IntKind.i64.wrap ((BitVec.ofInt 64 (a : Int) ||| BitVec.ofInt 64 (b : Int)).toNat : Int) = _
  rw [BitVec.toNat_or, ofInt_u64 a (by omega), ofInt_u64 b (by omega), IntKind.wrap_i64]
  omega
theorem pow_groups (k : Nat) : 2 ^ (7 * k) = 128 ^ k := by rw [Nat.pow_mul]
theorem or_groups (m q k : Nat) (hk : k < 6) (hm : m < 128 ^ k) : bits .or .i64 (m : Int) (wrap64 ((q : Int) % 128 * 2 ^ (7 * k))) = ((m + 128 ^ k * (q % 128) : Nat) : Int) := by
  have hp : 128 ^ k ≤ 128 ^ 5 := Nat.pow_le_pow_right (by omega) (by omega)
  have hq : q % 128 < 128 := Nat.mod_lt _ (by omega)
  have hle : 128 ^ k * (q % 128) ≤ 128 ^ 5 * 127 := Nat.mul_le_mul hp (by omega)
  have e : wrap64 ((q : Int) % 128 * 2 ^ (7 * k)) = ((128 ^ k * (q % 128) : Nat) : Int) := by
    have e1 : ((q : Int) % 128 * 2 ^ (7 * k)) = ((128 ^ k * (q % 128) : Nat) : Int) := by
      rw [← pow_groups]; push_cast; rw [Int.mul_comm]
    rw [e1]; unfold wrap64; omega
  rw [e, i64_or_nat _ _ (by omega) (by omega)]
  congr 1
  have h2 : m < 2 ^ (7 * k) := by rw [pow_groups]; exact hm
  rw [← pow_groups, Nat.or_comm, ← Nat.two_pow_add_eq_or_of_lt h2]; omega
set_option maxRecDepth 100000 in
theorem rdnum_any (b : Nat) (x : Rd Unit) (w : World) (hx : RSt w b x) :
    Calls Tryz.prog 127 #[.pointer (some ⟨b, 0, none⟩)] w fun e w' => e = .returned (.int .i64 (((rNum x).val 0 : Nat) : Int)) ∧ RSt w' b (rNum x).st ∧ Only b w w' := by
  have HX := Lib.hid hx
  clear hx
  go_enter Tryz.func127, Tryz.ntmps127
  go_wp2_with fail
  go_loopw [6, 3] (fun i n wr => ∃ (k m : Nat) (y : Rd Unit), k ≤ 6 ∧ i = .int .i64 k ∧ n = .int .i64 m ∧ m < 128 ^ k ∧ Hid (rNum x = accN k m y) ∧ RSt wr b y ∧ (∀ c, y = .bad c → k = 0) ∧ Only b w wr) (fun i _ _ => 6 - (intOf i).toNat)
  case atStart => exact ⟨0, 0, x, by omega, rfl, rfl, by simp, acc_start x, HX.out, fun _ _ => rfl, Only.refl _ _⟩
  case round =>
    obtain ⟨k, m, y, hk, rfl, rfl, hm, HE, hy, hz, ho⟩ := hrel
    have HM := Lib.hid hm
    have HY := Lib.hid hy
    have HO := Lib.hid ho
    have HZ := Lib.hid hz
    clear hm hy ho hz
    by_cases h6 : k = 6
    · subst h6
      cases y with
      | bad c => have := HZ.out c rfl; omega
      | ok u l =>
        obtain ⟨v, hb, hv⟩ := HY.out
        obtain ⟨c0, c1, f0, f1⟩ := hb.all
        have hlt := hb.lt
        have HB := Lib.hid hb
        clear hb hv
        go_wp2_with fail
        go_ret
        refine ⟨?_, ?_, HO.out.set (a := ⟨b, 1, none⟩) rfl _⟩
        · rw [HE.out, acc_end _ _ u l rfl]; rfl
        · rw [HE.out, acc_end _ _ u l rfl]
          exact ⟨rfl, v, HB.out.set1 _⟩
    · have hk6 : k < 6 := by omega
      cases y with
      | bad c =>
        have hc := HY.out.1
        have hc2 : (c = 0) = False := by simpa using hc
        go_wp2_with fail
        refine (one_any b _ _ HY.out).mono ?_
        rintro e w1 ⟨rfl, h1, h2⟩
        obtain ⟨_, v, h1⟩ := h1
        obtain ⟨c0, c1, f0, f1⟩ := h1.all
        have hlt := h1.lt
        have H1 := Lib.hid h1
        clear h1
        go_wp2_with fail
        all_goals go_ret
        all_goals exact ⟨by rw [HE.out]; rfl, by rw [HE.out]; exact ⟨hc, v, H1.out⟩, HO.out.trans h2⟩
      | ok u l =>
        cases l with
        | nil =>
          go_wp2_with fail
          refine (one_any b _ _ HY.out).mono ?_
          rintro e w1 ⟨rfl, h1, h2⟩
          obtain ⟨_, v, h1⟩ := h1
          obtain ⟨c0, c1, f0, f1⟩ := h1.all
          have hlt := h1.lt
          have H1 := Lib.hid h1
          clear h1
          go_wp2_with fail
          all_goals go_ret
          all_goals exact ⟨by rw [HE.out, acc_nil _ _ hk6]; rfl, by rw [HE.out, acc_nil _ _ hk6]; exact ⟨rfl, v, H1.out⟩, HO.out.trans h2⟩
        | cons c r =>
          have HC := Lib.hid c.toNat_lt
          obtain ⟨q, hq⟩ : ∃ q, c.toNat = q := ⟨_, rfl⟩
          have HQ := Lib.hid hq
          have q1 : IntKind.u8.wrap ((q : Int) % 128) = (q : Int) % 128 := by rw [IntKind.wrap_u8]; have := c.toNat_lt; omega
          clear hq
          go_wp2_with fail
          refine (one_any b _ _ HY.out).mono ?_
          rintro e w1 ⟨rfl, h1, h2⟩
          rw [show ((rOne (Rd.ok u (c :: r))).val 0).toNat = q from HQ.out]
          obtain ⟨v, h1, h3⟩ := h1
          obtain ⟨c0, c1, f0, f1⟩ := h1.all
          have hlt := h1.lt
          have H1 := Lib.hid h1
          have H3 := Lib.hid h3
          clear h1 h3
          by_cases hq0 : q = 0
          · subst hq0
            by_cases hk0 : 0 < k
            · have hd : decide ((0 : Int) < (k : Int)) = true := by simp; omega
              have hd2 : decide (0 < k) = true := by simp; omega
              go_wp2_with fail
              go_ret
              exact ⟨by rw [HE.out, acc_zero k m hk6 hk0 u c HQ.out]; rfl, by rw [HE.out, acc_zero k m hk6 hk0 u c HQ.out]; exact ⟨rfl, v, H1.out.set1 _⟩, (HO.out.trans h2).set (a := ⟨b, 1, none⟩) rfl _⟩
            · obtain rfl : k = 0 := by omega
              have hm0 : m = 0 := by have := HM.out; omega
              subst hm0
              have hb : bits BinOp.or IntKind.i64 0 0 = 0 := by decide
              go_wp2_with fail
              go_ret
              have ha := acc_last 0 0 (by omega) u c (by rw [HQ.out]; omega) (by omega) r
              rw [HQ.out] at ha
              exact ⟨by rw [HE.out, ha]; rfl, by rw [HE.out, ha]; exact ⟨v, H1.out, H3.out⟩, HO.out.trans h2⟩
          · have hq1 : ((q : Int) = 0) = False := by simp; omega
            have hob := or_groups m q k hk6 HM.out
            obtain ⟨m', hm'⟩ : ∃ m', m + 128 ^ k * (q % 128) = m' := ⟨_, rfl⟩
            rw [hm'] at hob
            have HM' := Lib.hid hm'
            clear hm'
            go_wp2_with fail
            · go_ret
              have hql : q < 128 := by omega
              have ha := acc_last k m hk6 u c (by rw [HQ.out]; exact hql) (by rw [HQ.out]; omega) r
              have e1 : q % 128 = q := Nat.mod_eq_of_lt hql
              rw [HQ.out] at ha
              have e2 := HM'.out
              rw [e1] at e2
              rw [e2] at ha
              exact ⟨by rw [HE.out, ha]; rfl, by rw [HE.out, ha]; exact ⟨v, H1.out, H3.out⟩, HO.out.trans h2⟩
            · have hql : ¬ q < 128 := by omega
              have ha := acc_next k m hk6 u c (by rw [HQ.out]; exact hql) r
              rw [HQ.out, HM'.out] at ha
              refine ⟨⟨k + 1, m', .ok () r, by omega, by go_num, by go_num, ?_, by unfold Hid; rw [HE.out, ha], ⟨v, H1.out, H3.out⟩, (fun c h => by cases h), HO.out.trans h2⟩, by simp only [intOf]; omega⟩
              have h1 := HM'.out
              have h2 := HM.out
              have h3 : q % 128 < 128 := Nat.mod_lt _ (by omega)
              rw [Nat.pow_succ]
              have h4 : 128 ^ k * (q % 128) ≤ 128 ^ k * 127 := Nat.mul_le_mul_left _ (by omega)
              omega
end Go.Proofs.YtghnbkkfghfifaaGreatDoor.E
