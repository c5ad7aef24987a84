/- A source that is alone: the law. -/
import Derived.Test.YtmoooeadiminbaaLa
import Derived.Test.YtmoooeadiminbaaZ
import Derived.BigRegion
import Derived.Deep.RegionHeld3
namespace Go.Proofs.Ytmoooeadiminbaa
open Go.RowKit Go.Maps
set_option linter.unusedVariables false
/-- A clock that has heard one source alone. -/
structure Lone (k : Ck) (sl m : Int) : Prop where
  idle : k.idle = 0
  slack : k.slack = sl
  src : m = -1 ∧ k.L = [] ∨ 0 ≤ m ∧ ∃ t, k.L = [⟨[97], m, t⟩]
  mark : k.mark = max (-1) (m - sl - 1)
theorem lone_told {k : Ck} {sl m : Int} (h : Lone k sl m) (h0 : 0 ≤ sl) : told k ≤ max (-1) (m - sl - 1) ∧ (0 ≤ m → told k = m - sl - 1) := by
  rcases h.src with ⟨h1, h2⟩ | ⟨h1, t, h2⟩
  · have := told_none (k := k) (fun s hs => by rw [h2] at hs; simp at hs)
    omega
  · have ha : act k ⟨[97], m, t⟩ = true := by unfold act; simp [h.idle]
    have := told_some (k := k) (s := ⟨[97], m, t⟩) (by rw [h2]; simp) ha (fun x hx _ => by rw [h2] at hx; simp at hx; rw [hx]; exact Int.le_refl _)
    rw [h.slack] at this
    simp only at this
    omega
theorem Lone.tick {k : Ck} {sl m : Int} (h : Lone k sl m) (h0 : 0 ≤ sl) (n : Int) : Lone (tickC k n) sl m := by
  have h1 : Lone (timeC k n) sl m := ⟨h.idle, h.slack, h.src, h.mark⟩
  refine ⟨h.idle, h.slack, h.src, ?_⟩
  have := lone_told h1 h0
  show max k.mark (told (timeC k n)) = _
  rw [h.mark]
  omega
theorem ok97 : okName [97] = true := by decide
def rightX (x mark : Int) : Bool := okTick x && decide (mark < x)
theorem lone_b {k : Ck} {sl m : Int} (h : Lone k sl m) (h0 : 0 ≤ sl) (x t : Int) : hearB k [97] x t = rightX x k.mark := by
  unfold hearB hearOk rightX
  rw [ok97, (h.tick h0 t).mark, h.mark]
  simp
theorem Lone.hear {k : Ck} {sl m : Int} (h : Lone k sl m) (h0 : 0 ≤ sl) (x t : Int) : Lone (hearC k [97] x t) sl (if rightX x k.mark = true then max m x else m) := by
  have ht := h.tick h0 t
  have hb := lone_b h h0 x t
  unfold hearC
  rw [hb]
  cases hr : rightX x k.mark with
  | false => simpa using ht
  | true =>
    simp only [if_true]
    have hx : 0 ≤ x ∧ x ≤ 1099511627776 := by
      unfold rightX at hr
      simp only [Bool.and_eq_true] at hr
      exact okTick_iff.1 hr.1
    have h1 : ∃ t', (putC (tickC k t) [97] x).L = [⟨[97], max m x, t'⟩] := by
      rcases ht.src with ⟨h1, h2⟩ | ⟨h1, t', h2⟩
      · refine ⟨(tickC k t).now, ?_⟩
        show insK Sr.name ⟨[97], max x (heardC (tickC k t) [97]), (tickC k t).now⟩ (tickC k t).L = _
        unfold heardC
        rw [h2, h1]
        show [_] = [_]
        simp only [getK, List.find?_nil]
        rw [Int.max_comm]
      · refine ⟨(tickC k t).now, ?_⟩
        show insK Sr.name ⟨[97], max x (heardC (tickC k t) [97]), (tickC k t).now⟩ (tickC k t).L = _
        unfold heardC
        rw [h2]
        show (if _ then _ else if _ then _ else _) = _
        rw [if_neg (lt_irr _), if_pos rfl]
        simp only [getK, List.find?_cons, decide_true]
        rw [Int.max_comm]
    obtain ⟨t', h1⟩ := h1
    have h2 : Lone (putC (tickC k t) [97] x) sl (max m x) → Lone (folC (putC (tickC k t) [97] x)) sl (max m x) := fun h => ⟨h.idle, h.slack, h.src, by
      have := lone_told h h0
      have hm := h.mark
      show max _ (told _) = _
      rw [hm]
      omega⟩
    have h3 : told (putC (tickC k t) [97] x) = max m x - sl - 1 := by
      have ha : act (putC (tickC k t) [97] x) ⟨[97], max m x, t'⟩ = true := by unfold act; rw [show (putC (tickC k t) [97] x).idle = 0 from ht.idle]; simp
      have := told_some (k := putC (tickC k t) [97] x) (s := ⟨[97], max m x, t'⟩) (by rw [h1]; simp) ha (fun y hy _ => by rw [h1] at hy; simp at hy; rw [hy]; exact Int.le_refl _)
      rw [show (putC (tickC k t) [97] x).slack = sl from ht.slack] at this
      exact this
    refine ⟨ht.idle, ht.slack, .inr ⟨by omega, t', h1⟩, ?_⟩
    show max (putC (tickC k t) [97] x).mark (told _) = _
    rw [h3, show (putC (tickC k t) [97] x).mark = (tickC k t).mark from rfl, ht.mark]
    rcases ht.src with ⟨h1, h2⟩ | ⟨h1, _⟩ <;> omega
theorem lone_heard {k : Ck} {sl m : Int} (h : Lone k sl m) : heardC k [97] = m ∧ activeC k [97] = decide (0 ≤ m) := by
  rcases h.src with ⟨h1, h2⟩ | ⟨h1, t, h2⟩
  · unfold heardC activeC
    rw [h2, h1]
    simp [getK]
  · unfold heardC activeC
    rw [h2]
    simp only [getK, List.find?_cons, decide_true]
    refine ⟨trivial, ?_⟩
    unfold act
    simp [h.idle, h1]
theorem lone_new (sl : Int) (h0 : 0 ≤ sl) (h1 : sl ≤ 1099511627776) : Lone (newC sl 0) sl (-1) := ⟨rfl, near_id h0 h1, .inl ⟨rfl, rfl⟩, by show (-1 : Int) = _; omega⟩
set_option maxHeartbeats 4000000 in
set_option maxRecDepth 100000 in
theorem alone_few (sl : Int) (v : Value) (ks : List Int) (w : World) (hv : Ints w w.heap.size v ks) (hf : ks.length ≤ 100) (hs0 : 0 ≤ sl ∧ sl ≤ 1099511627776) :
    Calls Try.prog 6 #[.int .i64 sl, v] w fun e w' => e = .returned (.bool true) ∧ Below w.heap.size w w' := by
  obtain ⟨q, cap, rfl, -⟩ := hv.shape
  obtain ⟨B0, hB0⟩ : ∃ B0, w.heap.size = B0 := ⟨_, rfl⟩
  have haw := Lib.hid (awake_any w)
  rw [hB0] at hv haw ⊢
  obtain ⟨N, hN⟩ : ∃ N, ks.length = N := ⟨_, rfl⟩
  rw [hN] at hv hf ⊢
  have HK := Lib.hid hv
  have HN := Lib.hid hN
  have g0 : decide ((100 : Int) < (N : Int)) = false := by simp; omega
  have g1 : decide (sl < 0) = false := by simp; omega
  have g2 : decide (1099511627776 < sl) = false := by simp; omega
  clear hv hN
  go_enter Try.func6, Try.ntmps6
  go_wp2_with fail
  refine (haw.out).mono ?_
  rintro e w1 ⟨rfl, hb1⟩
  have hs1 : B0 ≤ w1.heap.size := by have := hb1.size; omega
  have HB1 := Lib.hid hb1
  clear hb1 haw
  go_wp2_with fail
  refine (new_any sl 0 w1 (fun i => B0 ≤ i) (fun i hi => by omega)).mono ?_
  rintro e w3 ⟨c, B, rfl, -, hc3, hb3⟩
  have HC3 := Lib.hid hc3
  have HB3 := Lib.hid (HB1.out.trans (hb3.mono hs1))
  clear hc3 hb3 hs1
  go_wp2_with fail
  go_loopw [6, 7] (fun mv iv wr => ∃ (i : Nat) (k : Ck) (m : Int), i ≤ N ∧ mv = .int .i64 m ∧ iv = .int .i64 i ∧ Hid (Lone k sl m) ∧ Hid (k.L.length ≤ i) ∧ Hid (ClkM wr (fun i => B0 ≤ i) c B k) ∧ Hid (Below B0 w wr)) (fun _ iv _ => N - (intOf iv).toNat)
  case atStart => exact ⟨0, _, -1, by omega, rfl, rfl, lone_new sl hs0.1 hs0.2, by simp [newC, Hid], HC3.out, HB3.out⟩
  case round =>
    obtain ⟨i, k, m, hi, rfl, rfl, HL, HLE, HC, HB⟩ := hrel
    by_cases hlt : i < N
    · have hil : i < ks.length := by rw [HN.out]; exact hlt
      obtain ⟨ad, rfl, hab, c0⟩ := (HK.out.below HB.out).at i hil
      obtain ⟨x, hx⟩ : ∃ x, ks[i] = x := ⟨_, rfl⟩
      rw [hx] at c0
      have hsz : B0 ≤ wr.heap.size := by have := HB.out.size; omega
      have hma := mark_any HC.out.drew
      obtain ⟨M, hM⟩ : ∃ M, k.mark = M := ⟨_, rfl⟩
      rw [hM] at hma
      have HMA := Lib.hid hma
      have hm : -1 ≤ m ∧ m ≤ 1099511627776 := by
        rcases HL.out.src with ⟨h1, _⟩ | ⟨h1, t, h2⟩
        · omega
        · have := HC.out.ok.far ⟨[97], m, t⟩ (by rw [h2]; simp)
          simp only at this
          omega
      clear hma
      by_cases b1 : 0 ≤ x
      · have e1 : decide (0 ≤ x) = true := by simpa using b1
        by_cases b2 : x ≤ 1099511627776
        · have e2 : decide (x ≤ 1099511627776) = true := by simpa using b2
          by_cases b3 : M < x
          · have e3 : decide (M < x) = true := by simpa using b3
            have hR : rightX x k.mark = true := by rw [hM]; unfold rightX okTick; simp; omega
            have hl' := HL.out.hear hs0.1 x i
            rw [hR] at hl'
            simp only [if_true] at hl'
            obtain ⟨k', hk'⟩ : ∃ k', hearC k [97] x i = k' := ⟨_, rfl⟩
            rw [hk'] at hl'
            have HL' := Lib.hid hl'
            have HLE' : Hid (k'.L.length ≤ i + 1) := Lib.hid (by rw [← hk']; exact hear_len' HLE.out [97] x i)
            have HHE : Hid (∀ wx, ClkM wx (fun i => B0 ≤ i) c B k → B0 ≤ wx.heap.size → Calls Try.prog 13 #[.pointer (some ⟨c, 0, none⟩), .string (bs [97]), .int .i64 x, .int .i64 i] wx fun e w' => e = .returned (.bool true) ∧ ClkM w' (fun i => B0 ≤ i) c B k' ∧ Below B0 wx w') := Lib.hid (fun wx hx hs => hear_at hx [97] x i k' true hs (by decide) (by have := HLE.out; omega) hk' (by rw [lone_b HL.out hs0.1, hR]))
            have hmb : max m x ≤ 1099511627776 ∧ -1 ≤ max m x := by omega
            have y1 : IntKind.i64.wrap (max m x - sl) = max m x - sl := wrap_in (by omega) (by omega)
            have y2 : IntKind.i64.wrap (max m x - sl - 1) = max m x - sl - 1 := wrap_in (by omega) (by omega)
            clear hR hl' hk'
            go_wp2_with fail
            go_region_held3 (fun w' => w'.cell? (ad.add i) = some (.int .i64 x)) (go_keep) (first | (go_at_call 10; refine (HMA.out).mono ?_; rintro e w5 ⟨rfl, rfl⟩))
            go_wp2_with fail
            refine (HHE.out _ (HC.out.drew) hsz).mono ?_
            rintro e w5 ⟨rfl, hc5, hb5⟩
            have HC5 := Lib.hid hc5
            have HB5 : Hid (Below B0 w w5) := Lib.hid ((HB.out.drew).trans hb5)
            obtain ⟨ad5, ead, hab5, d0⟩ := (HK.out.below HB5.out).at i hil
            obtain rfl : ad = ad5 := Option.some.inj ead
            rw [hx] at d0
            have hmk := mark_any HC5.out
            rw [HL'.out.mark] at hmk
            have HMK := Lib.hid hmk
            have hhe := heard_any HC5.out [97] (by decide)
            rw [(lone_heard HL'.out).1] at hhe
            have HH5 := Lib.hid hhe
            clear hc5 hb5 hmk hhe
            go_wp2_with fail
            refine (HMK.out).mono ?_
            rintro e w6 ⟨rfl, rfl⟩
            go_wp2_with fail
            refine (HH5.out).mono ?_
            rintro e w7 ⟨rfl, hb7⟩
            have HC7 := Lib.hid (HC5.out.below hb7)
            have HB7 := Lib.hid (HB5.out.trans (hb7.mono (by have := HB5.out.size; omega)))
            have hac := active_any HC7.out [97] (by decide)
            rw [(lone_heard HL'.out).2] at hac
            have HA7 := Lib.hid hac
            clear hb7 hac
            go_wp2_with fail
            refine (HA7.out).mono ?_
            rintro e w8 ⟨rfl, hb8⟩
            have HC8 := Lib.hid (HC7.out.below hb8)
            have HB8 := Lib.hid (HB7.out.trans (hb8.mono (by have := HB7.out.size; omega)))
            clear hb8
            go_wp2_with fail
            refine ⟨⟨i + 1, k', max m x, by omega, rfl, by simp, HL', HLE', HC8, HB8⟩, ?_⟩
            simp only [intOf]
            omega
          · have e3 : decide (M < x) = false := by simpa using b3
            have hR : rightX x k.mark = false := by rw [hM]; unfold rightX okTick; simp; omega
            have hl' := HL.out.hear hs0.1 x i
            rw [hR] at hl'
            simp only [Bool.false_eq_true, if_false] at hl'
            obtain ⟨k', hk'⟩ : ∃ k', hearC k [97] x i = k' := ⟨_, rfl⟩
            rw [hk'] at hl'
            have HL' := Lib.hid hl'
            have HLE' : Hid (k'.L.length ≤ i + 1) := Lib.hid (by rw [← hk']; exact hear_len' HLE.out [97] x i)
            have HHE : Hid (∀ wx, ClkM wx (fun i => B0 ≤ i) c B k → B0 ≤ wx.heap.size → Calls Try.prog 13 #[.pointer (some ⟨c, 0, none⟩), .string (bs [97]), .int .i64 x, .int .i64 i] wx fun e w' => e = .returned (.bool false) ∧ ClkM w' (fun i => B0 ≤ i) c B k' ∧ Below B0 wx w') := Lib.hid (fun wx hx hs => hear_at hx [97] x i k' false hs (by decide) (by have := HLE.out; omega) hk' (by rw [lone_b HL.out hs0.1, hR]))
            have hmb : m ≤ 1099511627776 ∧ -1 ≤ m := by omega
            have y1 : IntKind.i64.wrap (m - sl) = m - sl := wrap_in (by omega) (by omega)
            have y2 : IntKind.i64.wrap (m - sl - 1) = m - sl - 1 := wrap_in (by omega) (by omega)
            clear hR hl' hk'
            go_wp2_with fail
            go_region_held3 (fun w' => w'.cell? (ad.add i) = some (.int .i64 x)) (go_keep) (first | (go_at_call 10; refine (HMA.out).mono ?_; rintro e w5 ⟨rfl, rfl⟩))
            go_wp2_with fail
            refine (HHE.out _ (HC.out.drew) hsz).mono ?_
            rintro e w5 ⟨rfl, hc5, hb5⟩
            have HC5 := Lib.hid hc5
            have HB5 : Hid (Below B0 w w5) := Lib.hid ((HB.out.drew).trans hb5)
            obtain ⟨ad5, ead, hab5, d0⟩ := (HK.out.below HB5.out).at i hil
            obtain rfl : ad = ad5 := Option.some.inj ead
            rw [hx] at d0
            have hmk := mark_any HC5.out
            rw [HL'.out.mark] at hmk
            have HMK := Lib.hid hmk
            have hhe := heard_any HC5.out [97] (by decide)
            rw [(lone_heard HL'.out).1] at hhe
            have HH5 := Lib.hid hhe
            clear hc5 hb5 hmk hhe
            go_wp2_with fail
            refine (HMK.out).mono ?_
            rintro e w6 ⟨rfl, rfl⟩
            go_wp2_with fail
            refine (HH5.out).mono ?_
            rintro e w7 ⟨rfl, hb7⟩
            have HC7 := Lib.hid (HC5.out.below hb7)
            have HB7 := Lib.hid (HB5.out.trans (hb7.mono (by have := HB5.out.size; omega)))
            have hac := active_any HC7.out [97] (by decide)
            rw [(lone_heard HL'.out).2] at hac
            have HA7 := Lib.hid hac
            clear hb7 hac
            go_wp2_with fail
            refine (HA7.out).mono ?_
            rintro e w8 ⟨rfl, hb8⟩
            have HC8 := Lib.hid (HC7.out.below hb8)
            have HB8 := Lib.hid (HB7.out.trans (hb8.mono (by have := HB7.out.size; omega)))
            clear hb8
            go_wp2_with fail
            refine ⟨⟨i + 1, k', m, by omega, rfl, by simp, HL', HLE', HC8, HB8⟩, ?_⟩
            simp only [intOf]
            omega
        · have e2 : decide (x ≤ 1099511627776) = false := by simpa using b2
          have hR : rightX x k.mark = false := by rw [hM]; unfold rightX okTick; simp; omega
          have hl' := HL.out.hear hs0.1 x i
          rw [hR] at hl'
          simp only [Bool.false_eq_true, if_false] at hl'
          obtain ⟨k', hk'⟩ : ∃ k', hearC k [97] x i = k' := ⟨_, rfl⟩
          rw [hk'] at hl'
          have HL' := Lib.hid hl'
          have HLE' : Hid (k'.L.length ≤ i + 1) := Lib.hid (by rw [← hk']; exact hear_len' HLE.out [97] x i)
          have HHE : Hid (∀ wx, ClkM wx (fun i => B0 ≤ i) c B k → B0 ≤ wx.heap.size → Calls Try.prog 13 #[.pointer (some ⟨c, 0, none⟩), .string (bs [97]), .int .i64 x, .int .i64 i] wx fun e w' => e = .returned (.bool false) ∧ ClkM w' (fun i => B0 ≤ i) c B k' ∧ Below B0 wx w') := Lib.hid (fun wx hx hs => hear_at hx [97] x i k' false hs (by decide) (by have := HLE.out; omega) hk' (by rw [lone_b HL.out hs0.1, hR]))
          have hmb : m ≤ 1099511627776 ∧ -1 ≤ m := by omega
          have y1 : IntKind.i64.wrap (m - sl) = m - sl := wrap_in (by omega) (by omega)
          have y2 : IntKind.i64.wrap (m - sl - 1) = m - sl - 1 := wrap_in (by omega) (by omega)
          clear hR hl' hk'
          go_wp2_with fail
          go_quiet (fail)
          go_wp2_with fail
          refine (HHE.out _ (HC.out.drewN _) hsz).mono ?_
          rintro e w5 ⟨rfl, hc5, hb5⟩
          have HC5 := Lib.hid hc5
          have HB5 : Hid (Below B0 w w5) := Lib.hid ((drewN_below HB.out _).trans hb5)
          obtain ⟨ad5, ead, hab5, d0⟩ := (HK.out.below HB5.out).at i hil
          obtain rfl : ad = ad5 := Option.some.inj ead
          rw [hx] at d0
          have hmk := mark_any HC5.out
          rw [HL'.out.mark] at hmk
          have HMK := Lib.hid hmk
          have hhe := heard_any HC5.out [97] (by decide)
          rw [(lone_heard HL'.out).1] at hhe
          have HH5 := Lib.hid hhe
          clear hc5 hb5 hmk hhe
          go_wp2_with fail
          refine (HMK.out).mono ?_
          rintro e w6 ⟨rfl, rfl⟩
          go_wp2_with fail
          refine (HH5.out).mono ?_
          rintro e w7 ⟨rfl, hb7⟩
          have HC7 := Lib.hid (HC5.out.below hb7)
          have HB7 := Lib.hid (HB5.out.trans (hb7.mono (by have := HB5.out.size; omega)))
          have hac := active_any HC7.out [97] (by decide)
          rw [(lone_heard HL'.out).2] at hac
          have HA7 := Lib.hid hac
          clear hb7 hac
          go_wp2_with fail
          refine (HA7.out).mono ?_
          rintro e w8 ⟨rfl, hb8⟩
          have HC8 := Lib.hid (HC7.out.below hb8)
          have HB8 := Lib.hid (HB7.out.trans (hb8.mono (by have := HB7.out.size; omega)))
          clear hb8
          go_wp2_with fail
          refine ⟨⟨i + 1, k', m, by omega, rfl, by simp, HL', HLE', HC8, HB8⟩, ?_⟩
          simp only [intOf]
          omega
      · have e1 : decide (0 ≤ x) = false := by simpa using b1
        have hR : rightX x k.mark = false := by rw [hM]; unfold rightX okTick; simp; omega
        have hl' := HL.out.hear hs0.1 x i
        rw [hR] at hl'
        simp only [Bool.false_eq_true, if_false] at hl'
        obtain ⟨k', hk'⟩ : ∃ k', hearC k [97] x i = k' := ⟨_, rfl⟩
        rw [hk'] at hl'
        have HL' := Lib.hid hl'
        have HLE' : Hid (k'.L.length ≤ i + 1) := Lib.hid (by rw [← hk']; exact hear_len' HLE.out [97] x i)
        have HHE : Hid (∀ wx, ClkM wx (fun i => B0 ≤ i) c B k → B0 ≤ wx.heap.size → Calls Try.prog 13 #[.pointer (some ⟨c, 0, none⟩), .string (bs [97]), .int .i64 x, .int .i64 i] wx fun e w' => e = .returned (.bool false) ∧ ClkM w' (fun i => B0 ≤ i) c B k' ∧ Below B0 wx w') := Lib.hid (fun wx hx hs => hear_at hx [97] x i k' false hs (by decide) (by have := HLE.out; omega) hk' (by rw [lone_b HL.out hs0.1, hR]))
        have hmb : m ≤ 1099511627776 ∧ -1 ≤ m := by omega
        have y1 : IntKind.i64.wrap (m - sl) = m - sl := wrap_in (by omega) (by omega)
        have y2 : IntKind.i64.wrap (m - sl - 1) = m - sl - 1 := wrap_in (by omega) (by omega)
        clear hR hl' hk'
        go_wp2_with fail
        go_quiet (fail)
        go_wp2_with fail
        refine (HHE.out _ (HC.out.drewN _) hsz).mono ?_
        rintro e w5 ⟨rfl, hc5, hb5⟩
        have HC5 := Lib.hid hc5
        have HB5 : Hid (Below B0 w w5) := Lib.hid ((drewN_below HB.out _).trans hb5)
        obtain ⟨ad5, ead, hab5, d0⟩ := (HK.out.below HB5.out).at i hil
        obtain rfl : ad = ad5 := Option.some.inj ead
        rw [hx] at d0
        have hmk := mark_any HC5.out
        rw [HL'.out.mark] at hmk
        have HMK := Lib.hid hmk
        have hhe := heard_any HC5.out [97] (by decide)
        rw [(lone_heard HL'.out).1] at hhe
        have HH5 := Lib.hid hhe
        clear hc5 hb5 hmk hhe
        go_wp2_with fail
        refine (HMK.out).mono ?_
        rintro e w6 ⟨rfl, rfl⟩
        go_wp2_with fail
        refine (HH5.out).mono ?_
        rintro e w7 ⟨rfl, hb7⟩
        have HC7 := Lib.hid (HC5.out.below hb7)
        have HB7 := Lib.hid (HB5.out.trans (hb7.mono (by have := HB5.out.size; omega)))
        have hac := active_any HC7.out [97] (by decide)
        rw [(lone_heard HL'.out).2] at hac
        have HA7 := Lib.hid hac
        clear hb7 hac
        go_wp2_with fail
        refine (HA7.out).mono ?_
        rintro e w8 ⟨rfl, hb8⟩
        have HC8 := Lib.hid (HC7.out.below hb8)
        have HB8 := Lib.hid (HB7.out.trans (hb8.mono (by have := HB7.out.size; omega)))
        clear hb8
        go_wp2_with fail
        refine ⟨⟨i + 1, k', m, by omega, rfl, by simp, HL', HLE', HC8, HB8⟩, ?_⟩
        simp only [intOf]
        omega
    · obtain rfl : i = N := by omega
      go_wp2_with fail
      go_ret
      exact ⟨rfl, HB.out⟩
set_option maxRecDepth 100000 in
theorem law_alone (sl : Int) (v : Value) (ks : List Int) (w : World) (hv : Ints w w.heap.size v ks) :
    Calls Try.prog 6 #[.int .i64 sl, v] w fun e w' => e = .returned (.bool true) ∧ Below w.heap.size w w' := by
  by_cases h : ks.length ≤ 100 ∧ 0 ≤ sl ∧ sl ≤ 1099511627776
  · exact alone_few sl v ks w hv h.1 h.2
  · obtain ⟨q, cap, rfl, hl⟩ := hv.shape
    obtain ⟨N, hN⟩ : ∃ N, ks.length = N := ⟨_, rfl⟩
    rw [hN] at h ⊢
    have haw := Lib.hid (awake_any w)
    clear hv hN hl
    by_cases h1 : 100 < N
    · have g0 : decide ((100 : Int) < (N : Int)) = true := by simp; omega
      clear h
      go_enter Try.func6, Try.ntmps6
      go_wp2_with fail
      refine (haw.out).mono ?_
      rintro e w1 ⟨rfl, hb1⟩
      go_wp2_with fail
      go_ret
      exact ⟨rfl, hb1⟩
    · have g0 : decide ((100 : Int) < (N : Int)) = false := by simp; omega
      by_cases h2 : sl < 0
      · have g1 : decide (sl < 0) = true := by simpa using h2
        clear h
        go_enter Try.func6, Try.ntmps6
        go_wp2_with fail
        refine (haw.out).mono ?_
        rintro e w1 ⟨rfl, hb1⟩
        go_wp2_with fail
        go_ret
        exact ⟨rfl, hb1⟩
      · have g1 : decide (sl < 0) = false := by simpa using h2
        have g2 : decide (1099511627776 < sl) = true := by simp; omega
        clear h
        go_enter Try.func6, Try.ntmps6
        go_wp2_with fail
        refine (haw.out).mono ?_
        rintro e w1 ⟨rfl, hb1⟩
        go_wp2_with fail
        go_ret
        exact ⟨rfl, hb1⟩
end Go.Proofs.Ytmoooeadiminbaa
