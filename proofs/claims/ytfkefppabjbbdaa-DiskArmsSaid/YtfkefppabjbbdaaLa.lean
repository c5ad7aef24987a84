/- A fuse lets just so many steps be done: the statement's walk. -/
import Derived.Test.YtfkefppabjbbdaaT
namespace Go.Proofs.Ytfkefppabjbbdaa
open Go.RowKit Go.Maps
set_option linter.unusedVariables false
def fl (s : List UInt8) : List Fl := if s = [] then [] else [⟨[102], s, 0, false⟩]
def st (s : List UInt8) (f : Int) (dn : Bool) : Dk := ⟨fl s, f, dn⟩
theorem get_st (s : List UInt8) : get [102] (fl s) = if s = [] then none else some ⟨[102], s, 0, false⟩ := by
  unfold fl
  by_cases h : s = []
  · rw [if_pos h, if_pos h]; rfl
  · rw [if_neg h, if_neg h]; rfl
theorem old_st (s : List UInt8) : old [102] (fl s) = ⟨[102], s, 0, false⟩ := by
  unfold old
  rw [get_st]
  by_cases h : s = []
  · rw [if_pos h, h]; rfl
  · rw [if_neg h]; rfl
theorem tot_st (s : List UInt8) : tot (fl s) = s.length := by
  unfold fl
  by_cases h : s = []
  · rw [if_pos h, h]; rfl
  · rw [if_neg h]; rfl
theorem ins_st (s t : List UInt8) (h : t ≠ []) : ins ⟨[102], t, 0, false⟩ (fl s) = fl t := by
  unfold fl
  rw [if_neg h]
  by_cases hs : s = []
  · rw [if_pos hs]; rfl
  · rw [if_neg hs]; rfl
theorem app_down (s : List UInt8) (f : Int) (b : UInt8) : appendE (st s f true) [102] [b] = 8 ∧ appendD (st s f true) [102] [b] = st s f true := by
  have : mayHold (st s f true) [102] ([b].length : Nat) = 8 := by unfold mayHold ask st; simp
  constructor
  · unfold appendE; rw [this]; rfl
  · unfold appendD; rw [this]; rfl
theorem app_up {s : List UInt8} (hs : s.length ≤ 1000) (f : Int) (b : UInt8) : appendE (st s f false) [102] [b] = burnE f ∧ appendD (st s f false) [102] [b] = burn (st (s ++ [b]) f false) := by
  have : mayHold (st s f false) [102] ([b].length : Nat) = 0 := by
    unfold mayHold
    have h1 : ask (st s f false) [102] = 0 := by rfl
    rw [h1, if_neg (by simp), if_neg]
    rintro (h | ⟨_, h⟩)
    · rw [show (st s f false).L = fl s from rfl, tot_st] at h
      simp at h; omega
    · have : (fl s).length ≤ 1 := by unfold fl; split <;> simp
      rw [show (st s f false).L = fl s from rfl] at h
      omega
  constructor
  · unfold appendE; rw [this]; rfl
  · unfold appendD; rw [this, if_neg (by simp)]
    rw [show (st s f false).L = fl s from rfl, old_st]
    show burn (withL _ (ins ⟨[102], s ++ [b], 0, false⟩ (fl s))) = _
    rw [ins_st _ _ (by simp)]
    rfl
theorem burn_st (s : List UInt8) (f : Int) : burn (st s f false) = if f = -1 then st s (-1) false else if f = 0 then st s 0 true else st s (f - 1) false := by
  unfold burn
  show (if f = -1 then _ else if f = 0 then _ else _) = _
  by_cases h1 : f = -1
  · rw [if_pos h1, if_pos h1, h1]
  · rw [if_neg h1, if_neg h1]
    by_cases h0 : f = 0
    · rw [if_pos h0, if_pos h0, h0]; rfl
    · rw [if_neg h0, if_neg h0]; rfl
theorem crash_st {s : List UInt8} (hs : s.length ≤ 1000) (f : Int) (dn : Bool) : crashD (st s f dn) [1000] = ⟨if s = [] then [] else [⟨[102], s, s.length, true⟩], -1, false⟩ := by
  unfold crashD st fl
  by_cases h : s = []
  · simp only [if_pos h]; rfl
  · simp only [if_neg h]
    have hl : s.length ≠ 0 := fun e => h (List.length_eq_zero_iff.1 e)
    have h1 : leftN ⟨[102], s, 0, false⟩ 1000 = s.length := by
      unfold leftN
      show min (1000 : Int).toNat (s.length - 0) = _
      have : (1000 : Int).toNat = 1000 := rfl
      rw [this]; omega
    have h2 : cutF ⟨[102], s, 0, false⟩ 1000 = ⟨[102], s, 0, false⟩ := by
      unfold cutF
      rw [h1]
      simp
    have h3 : crashF ⟨[102], s, 0, false⟩ 1000 = [⟨[102], s, s.length, true⟩] := by
      unfold crashF
      rw [h2, if_neg (by simp [goneF, h])]
      rfl
    show Dk.mk (crashF _ ((1000 : Int)) ++ []) _ _ = _
    rw [h3]
    rfl
def cs (s : List UInt8) : Dk := ⟨if s = [] then [] else [⟨[102], s, s.length, true⟩], -1, false⟩
theorem sync_cs (s : List UInt8) : syncE (cs s) [103] = 6 := by
  have : find (cs s) [103] = 6 := by
    unfold find
    have h1 : ask (cs s) [103] = 0 := rfl
    rw [h1, if_neg (by simp)]
    unfold cs
    by_cases h : s = []
    · simp only [if_pos h]; rfl
    · simp only [if_neg h]; rfl
  unfold syncE; rw [this]; rfl
theorem syncD_cs (s : List UInt8) : syncD (cs s) [103] = cs s := by
  have : find (cs s) [103] = 6 := by
    unfold find
    have h1 : ask (cs s) [103] = 0 := rfl
    rw [h1, if_neg (by simp)]
    unfold cs
    by_cases h : s = []
    · simp only [if_pos h]; rfl
    · simp only [if_neg h]; rfl
  unfold syncD; rw [this]; rfl
theorem read_cs (s : List UInt8) : readS (cs s) [102] = s := by
  unfold readS cs find
  by_cases h : s = []
  · simp only [if_pos h]; rw [h]; rfl
  · simp only [if_neg h]; rfl
def dnA (f : Int) (i : Nat) : Bool := decide (0 ≤ f) && decide (f < i)
def lnA (f : Int) (i : Nat) : Nat := if 0 ≤ f ∧ f < i then f.toNat + 1 else i
def fuA (f : Int) (i : Nat) : Int := if f < 0 then -1 else if (i : Int) ≤ f then f - i else 0
theorem u8_wrap {i : Nat} (h : i < 256) : IntKind.u8.wrap (i : Int) = ((UInt8.ofNat i).toNat : Int) := by
  rw [IntKind.wrap_u8]
  simp
theorem one_byte {i : Nat} (h : i < 256) (w : World) : Seen (w.alloc (.cells #[.int .u8 (i : Int)] 5)) (w.alloc (.cells #[.int .u8 (i : Int)] 5)).heap.size (.slice (some ⟨w.heap.size, 0, none⟩) 1 1) [UInt8.ofNat i] := by
  have h1 := lit_seen w [UInt8.ofNat i] (0, 0)
  have h2 : (u8s [UInt8.ofNat i]).toArray = #[.int .u8 (i : Int)] := by
    unfold u8s
    simp only [List.map_cons, List.map_nil]
    rw [UInt8.toNat_ofNat']
    have : i % 2 ^ 8 = i := by omega
    rw [this]
  rw [h2] at h1
  exact h1
theorem round_st {f : Int} {i : Nat} {s : List UInt8} (hi : i < 256) (hs : s.length = lnA f i) (b : UInt8) : ∃ s', appendE (st s (fuA f i) (dnA f i)) [102] [b] = (if f < 0 ∨ (i : Int) < f then 0 else 8) ∧
    appendD (st s (fuA f i) (dnA f i)) [102] [b] = st s' (fuA f (i + 1)) (dnA f (i + 1)) ∧ s'.length = lnA f (i + 1) := by
  have hs' : s.length ≤ 1000 := by rw [hs]; unfold lnA; split <;> omega
  by_cases h1 : f < 0
  · have e1 : dnA f i = false := by unfold dnA; simp; omega
    have e2 : dnA f (i + 1) = false := by unfold dnA; simp; omega
    have e3 : fuA f i = -1 := by unfold fuA; rw [if_pos h1]
    have e4 : fuA f (i + 1) = -1 := by unfold fuA; rw [if_pos h1]
    rw [e1, e2, e3, e4, (app_up hs' _ b).1, (app_up hs' _ b).2, burn_st, if_pos (.inl h1)]
    refine ⟨s ++ [b], rfl, rfl, ?_⟩
    rw [List.length_append, hs]
    unfold lnA
    rw [if_neg (by omega), if_neg (by omega)]
    rfl
  · by_cases h2 : f < i
    · have e1 : dnA f i = true := by unfold dnA; simp; omega
      have e2 : dnA f (i + 1) = true := by unfold dnA; simp; omega
      have e3 : fuA f i = 0 := by unfold fuA; rw [if_neg h1, if_neg (by omega)]
      have e4 : fuA f (i + 1) = 0 := by unfold fuA; rw [if_neg h1, if_neg (by omega)]
      rw [e1, e2, e3, e4, (app_down s _ b).1, (app_down s _ b).2, if_neg (by omega)]
      refine ⟨s, rfl, rfl, ?_⟩
      rw [hs]
      unfold lnA
      rw [if_pos (by omega), if_pos (by omega)]
    · have e1 : dnA f i = false := by unfold dnA; simp; omega
      have e3 : fuA f i = f - i := by unfold fuA; rw [if_neg h1, if_pos (by omega)]
      by_cases h3 : f = i
      · have e2 : dnA f (i + 1) = true := by unfold dnA; simp; omega
        have e4 : fuA f (i + 1) = 0 := by unfold fuA; rw [if_neg h1, if_neg (by omega)]
        have q1 : (if f < 0 ∨ (i : Int) < f then 0 else 8) = 8 := if_neg (by omega)
        have q2 : burn (st (s ++ [b]) (f - i) false) = st (s ++ [b]) 0 true := by rw [burn_st, if_neg (by omega), if_pos (by omega)]
        have q3 : burnE (f - i) = 8 := by unfold burnE; rw [if_pos (by omega)]
        rw [e1, e3, (app_up hs' _ b).1, (app_up hs' _ b).2, q1, q2, q3, e2, e4]
        refine ⟨s ++ [b], rfl, rfl, ?_⟩
        rw [List.length_append, hs]
        unfold lnA
        rw [if_neg (by omega), if_pos (by omega)]
        simp; omega
      · have e2 : dnA f (i + 1) = false := by unfold dnA; simp; omega
        have e4 : fuA f (i + 1) = f - i - 1 := by
          unfold fuA
          rw [if_neg h1, if_pos (by omega)]
          omega
        have q1 : (if f < 0 ∨ (i : Int) < f then 0 else 8) = 0 := if_pos (by omega)
        have q2 : burn (st (s ++ [b]) (f - i) false) = st (s ++ [b]) (f - i - 1) false := by rw [burn_st, if_neg (by omega), if_neg (by omega)]
        have q3 : burnE (f - i) = 0 := by unfold burnE; rw [if_neg (by omega)]
        rw [e1, e3, (app_up hs' _ b).1, (app_up hs' _ b).2, q1, q2, q3, e2, e4]
        refine ⟨s ++ [b], rfl, rfl, ?_⟩
        rw [List.length_append, hs]
        unfold lnA
        rw [if_neg (by omega), if_neg (by omega)]
        rfl
set_option maxRecDepth 100000 in
theorem law_arms (f : Int) (hf : -128 ≤ f ∧ f ≤ 127) (n : Int) (hn : 0 ≤ n ∧ n ≤ 255) (w : World) :
    Calls Try.prog 7 #[.int .i8 f, .int .u8 n] w fun e w' => e = .returned (.bool true) ∧ Below w.heap.size w w' := by
  obtain ⟨N, rfl⟩ : ∃ N : Nat, n = (N : Int) := ⟨n.toNat, by omega⟩
  obtain ⟨hf1, hf2⟩ := hf
  have hN : N ≤ 255 := by omega
  clear hn
  have hnew := Lib.hid (new_dk w (fun i => w.heap.size ≤ i) (fun i hi => hi))
  have haw := Lib.hid awake_any
  go_enter Try.func7, Try.ntmps7
  go_wp2_with fail
  refine (hnew.out).mono ?_
  rintro e w1 ⟨d, rfl, hd1, hb1⟩
  have HD1 := Lib.hid hd1
  have HB1 := Lib.hid hb1
  clear hd1 hb1 hnew
  go_wp2_with fail
  refine (arm_dk HD1.out f (by omega)).mono ?_
  rintro e w2 ⟨rfl, hd2, hk2⟩
  have hst : armD newD f = st [] (fuA f 0) (dnA f 0) := by
    have e1 : dnA f 0 = false := by unfold dnA; simp
    have e2 : fuA f 0 = max f (-1) := by
      unfold fuA
      by_cases h : f < 0
      · rw [if_pos h]; omega
      · rw [if_neg h, if_pos (by omega)]; omega
    rw [e1, e2]; rfl
  rw [hst] at hd2
  have HD2 := Lib.hid hd2
  have HB2 := Lib.hid (HB1.out.trans (hk2.below HB1.out.size (fun i hi => hi)))
  clear hd2 hk2 hst HD1 HB1
  go_wp2_with fail
  go_loopw [23] (fun iv wr => ∃ (i : Nat) (s : List UInt8), i ≤ N ∧ iv = .int .i64 i ∧ Hid (s.length = lnA f i) ∧ Hid (DiskAt wr (fun i => w.heap.size ≤ i) d (st s (fuA f i) (dnA f i))) ∧ Hid (Below w.heap.size w wr)) (fun iv _ => N - (intOf iv).toNat)
  case atStart =>
    refine ⟨0, [], by omega, rfl, ?_, HD2, HB2⟩
    show 0 = lnA f 0
    unfold lnA
    rw [if_neg (by rintro ⟨h1, h2⟩; simp at h2; omega)]
  case round =>
    obtain ⟨i, s, hi, rfl, HS, HD, HB⟩ := hrel
    by_cases hlt : i < N
    · obtain ⟨s', r1, r2, r3⟩ := round_st (f := f) (i := i) (by omega) HS.out (UInt8.ofNat i)
      have hF : ∀ j, (wr.alloc (.cells #[.int .u8 (i : Int)] 5)).heap.size ≤ j → w.heap.size ≤ j := fun j hj => by have := HB.out.size; simp at hj; omega
      have hap := append_any hF (HD.out.alloc _) [102] (by decide) _ [UInt8.ofNat i] _ (one_byte (by omega) wr) (Nat.le_refl _) (by simp)
      rw [r1, r2] at hap
      have HAP := Lib.hid hap
      have HS' := Lib.hid r3
      clear r1 r2 r3 hF hap
      by_cases hc : f < 0 ∨ (i : Int) < f
      · rw [if_pos hc] at HAP
        have hend : Hid (∀ w3, DiskAt w3 (fun i => w.heap.size ≤ i) d (st s' (fuA f (i + 1)) (dnA f (i + 1))) → Kept (fun i => w.heap.size ≤ i) (wr.alloc (.cells #[.int .u8 (i : Int)] 5)) w3 → Below w.heap.size w w3) := Lib.hid (fun w3 _ hk => HB.out.trans (((Kept.refl (fun i => w.heap.size ≤ i) wr).alloc _).trans hk |>.below HB.out.size (fun i hi => hi)))
        by_cases hz : f < 0
        · have k0 : decide (f < 0) = true := by simpa using hz
          clear hc
          go_wp2_with fail
          refine (HAP.out).mono ?_
          rintro e w3 ⟨rfl, hd3, hk3⟩
          have HD3 := Lib.hid hd3
          have HB3 := Lib.hid (hend.out w3 hd3 hk3)
          clear hd3 hk3
          go_wp2_with fail
          refine ⟨⟨i + 1, s', by omega, by simp, HS', HD3, HB3⟩, ?_⟩
          simp only [intOf]
          omega
        · have k0 : decide (f < 0) = false := by simpa using hz
          have k1 : decide ((i : Int) < f) = true := by simp; omega
          clear hc
          go_wp2_with fail
          refine (HAP.out).mono ?_
          rintro e w3 ⟨rfl, hd3, hk3⟩
          have HD3 := Lib.hid hd3
          have HB3 := Lib.hid (hend.out w3 hd3 hk3)
          clear hd3 hk3
          go_wp2_with fail
          refine ⟨⟨i + 1, s', by omega, by simp, HS', HD3, HB3⟩, ?_⟩
          simp only [intOf]
          omega
      · rw [if_neg hc] at HAP
        have hend : Hid (∀ w3, DiskAt w3 (fun i => w.heap.size ≤ i) d (st s' (fuA f (i + 1)) (dnA f (i + 1))) → Kept (fun i => w.heap.size ≤ i) (wr.alloc (.cells #[.int .u8 (i : Int)] 5)) w3 → Below w.heap.size w w3) := Lib.hid (fun w3 _ hk => HB.out.trans (((Kept.refl (fun i => w.heap.size ≤ i) wr).alloc _).trans hk |>.below HB.out.size (fun i hi => hi)))
        have k0 : decide (f < 0) = false := by simp; omega
        have k1 : decide ((i : Int) < f) = false := by simp; omega
        clear hc
        go_wp2_with fail
        refine (HAP.out).mono ?_
        rintro e w3 ⟨rfl, hd3, hk3⟩
        have HD3 := Lib.hid hd3
        have HB3 := Lib.hid (hend.out w3 hd3 hk3)
        clear hd3 hk3
        go_wp2_with fail
        refine ⟨⟨i + 1, s', by omega, by simp, HS', HD3, HB3⟩, ?_⟩
        simp only [intOf]
        omega
    · obtain rfl : i = N := by omega
      have hlen : lnA f i ≤ 256 := by unfold lnA; split <;> omega
      clear hi hlt
      by_cases h1 : f < 0
      · have hB : dnA f i = false := by unfold dnA; simp; omega
        have hS : ((s.length : Int) == (i : Int)) = true := by
          have := HS.out
          unfold lnA at this
          rw [if_neg (by omega)] at this
          simp; omega
        have g1 : decide (0 ≤ f) = false := by simp; omega
        clear h1
        have hd := HD.out
        rw [hB] at hd
        have HDD := Lib.hid hd
        have hdn := Lib.hid (down_any wr d _ hd.down)
        have hrd := Lib.hid (read_any hd [102] (by decide))
        obtain ⟨fz, hfz⟩ : ∃ fz, find (st s (fuA f i) false) [102] = fz := ⟨_, rfl⟩
        rw [hfz] at hrd
        clear hfz
        clear hd hB
        go_wp2_with fail
        refine (hdn.out).mono ?_
        rintro e w3 ⟨rfl, rfl⟩
        go_wp2_with fail
        refine (hrd.out).mono ?_
        rintro e w4 ⟨u4', rfl, hu4, hd4, hb4⟩
        obtain ⟨q4, cap4, rfl⟩ := hu4.len
        have HD4 := Lib.hid hd4
        have HB4 := Lib.hid (HB.out.trans (hb4.mono HB.out.size))
        clear hu4 hd4 hb4
        go_wp2_with fail
        have hD5 : DiskAt (w4.alloc (.cells #[.int .i64 1000] 3)) (fun j => w.heap.size ≤ j ∧ j ≠ w4.heap.size) d _ := (HD4.out.mono (G := fun j => w.heap.size ≤ j ∧ j ≠ w4.heap.size) (fun j hj hl => ⟨hj, by omega⟩)).alloc _
        have hI5 : Ints (w4.alloc (.cells #[.int .i64 1000] 3)) (fun j => ¬ (w.heap.size ≤ j ∧ j ≠ w4.heap.size)) (.slice (some ⟨w4.heap.size, 0, none⟩) 1 1) [1000] := by
          refine .inr ⟨⟨w4.heap.size, 0, none⟩, 1, rfl, fun _ => ⟨fun h => h.2 rfl, by simp⟩, fun j hj => ?_⟩
          have : j = 0 := by simp at hj; omega
          subst this
          exact cell_one w4 (.int .i64 1000) 3 0 _ rfl
        refine (crash_any hD5 _ [1000] hI5 (by decide)).mono ?_
        rw [crash_st (by rw [HS.out]; omega)]
        rintro e w5 ⟨rfl, hd5, hk5⟩
        have HD5 : Hid (DiskAt w5 (fun j => w.heap.size ≤ j) d (cs s)) := Lib.hid (hd5.mono (fun j hj _ => hj.1))
        have HB5 : Hid (Below w.heap.size w w5) := Lib.hid (HB4.out.trans ((((Kept.refl (fun j => w.heap.size ≤ j) w4).alloc (.cells #[.int .i64 1000] 3)).trans (hk5.mono (fun j hj => hj.1))).below HB4.out.size (fun j hj => hj)))
        have hdn5 := Lib.hid (down_any w5 d _ HD5.out.down)
        clear hd5 hk5 hD5 hI5
        go_wp2_with fail
        refine (hdn5.out).mono ?_
        rintro e w6 ⟨rfl, rfl⟩
        go_wp2_with fail
        refine (sync_any HD5.out [103] (by decide)).mono ?_
        rw [sync_cs, syncD_cs]
        rintro e w7 ⟨rfl, hd7, hk7⟩
        have HD7 := Lib.hid hd7
        have HB7 := Lib.hid (HB5.out.trans (hk7.below HB5.out.size (fun j hj => hj)))
        clear hd7 hk7
        go_wp2_with fail
        refine (read_any HD7.out [102] (by decide)).mono ?_
        rw [read_cs]
        rintro e w8 ⟨u8', rfl, hu8, hd8, hb8⟩
        obtain ⟨q8, cap8, rfl⟩ := hu8.len
        have HB8 := Lib.hid (HB7.out.trans (hb8.mono HB7.out.size))
        clear hu8 hd8 hb8
        obtain ⟨fy, hfy⟩ : ∃ fy, find (cs s) [102] = fy := ⟨_, rfl⟩
        rw [hfy]
        clear hfy
        go_wp2_with fail
        refine (haw.out _).mono ?_
        rintro e w9 ⟨rfl, hb9⟩
        have HB9 := Lib.hid (HB8.out.trans (hb9.mono HB8.out.size))
        clear hb9
        go_wp2_with fail
        go_ret
        exact ⟨rfl, HB9.out⟩
      · by_cases h2 : f < (i : Int)
        · have hB : dnA f i = true := by unfold dnA; simp; omega
          have hS : ((s.length : Int) == f + 1) = true := by
            have := HS.out
            unfold lnA at this
            rw [if_pos (by omega)] at this
            simp; omega
          have g1 : decide (0 ≤ f) = true := by simp; omega
          have g2 : decide (f < (i : Int)) = true := by simp; omega
          clear h1 h2
          have hd := HD.out
          rw [hB] at hd
          have HDD := Lib.hid hd
          have hdn := Lib.hid (down_any wr d _ hd.down)
          have hrd := Lib.hid (read_any hd [102] (by decide))
          have hf8 : find (st s (fuA f i) true) [102] = 8 := by unfold find ask st; simp
          rw [hf8] at hrd
          clear hd hB
          go_wp2_with fail
          refine (hdn.out).mono ?_
          rintro e w3 ⟨rfl, rfl⟩
          go_wp2_with fail
          refine (hrd.out).mono ?_
          rintro e w4 ⟨u4', rfl, hu4, hd4, hb4⟩
          obtain ⟨q4, cap4, rfl⟩ := hu4.len
          have HD4 := Lib.hid hd4
          have HB4 := Lib.hid (HB.out.trans (hb4.mono HB.out.size))
          clear hu4 hd4 hb4
          go_wp2_with fail
          have hD5 : DiskAt (w4.alloc (.cells #[.int .i64 1000] 3)) (fun j => w.heap.size ≤ j ∧ j ≠ w4.heap.size) d _ := (HD4.out.mono (G := fun j => w.heap.size ≤ j ∧ j ≠ w4.heap.size) (fun j hj hl => ⟨hj, by omega⟩)).alloc _
          have hI5 : Ints (w4.alloc (.cells #[.int .i64 1000] 3)) (fun j => ¬ (w.heap.size ≤ j ∧ j ≠ w4.heap.size)) (.slice (some ⟨w4.heap.size, 0, none⟩) 1 1) [1000] := by
            refine .inr ⟨⟨w4.heap.size, 0, none⟩, 1, rfl, fun _ => ⟨fun h => h.2 rfl, by simp⟩, fun j hj => ?_⟩
            have : j = 0 := by simp at hj; omega
            subst this
            exact cell_one w4 (.int .i64 1000) 3 0 _ rfl
          refine (crash_any hD5 _ [1000] hI5 (by decide)).mono ?_
          rw [crash_st (by rw [HS.out]; omega)]
          rintro e w5 ⟨rfl, hd5, hk5⟩
          have HD5 : Hid (DiskAt w5 (fun j => w.heap.size ≤ j) d (cs s)) := Lib.hid (hd5.mono (fun j hj _ => hj.1))
          have HB5 : Hid (Below w.heap.size w w5) := Lib.hid (HB4.out.trans ((((Kept.refl (fun j => w.heap.size ≤ j) w4).alloc (.cells #[.int .i64 1000] 3)).trans (hk5.mono (fun j hj => hj.1))).below HB4.out.size (fun j hj => hj)))
          have hdn5 := Lib.hid (down_any w5 d _ HD5.out.down)
          clear hd5 hk5 hD5 hI5
          go_wp2_with fail
          refine (hdn5.out).mono ?_
          rintro e w6 ⟨rfl, rfl⟩
          go_wp2_with fail
          refine (sync_any HD5.out [103] (by decide)).mono ?_
          rw [sync_cs, syncD_cs]
          rintro e w7 ⟨rfl, hd7, hk7⟩
          have HD7 := Lib.hid hd7
          have HB7 := Lib.hid (HB5.out.trans (hk7.below HB5.out.size (fun j hj => hj)))
          clear hd7 hk7
          go_wp2_with fail
          refine (read_any HD7.out [102] (by decide)).mono ?_
          rw [read_cs]
          rintro e w8 ⟨u8', rfl, hu8, hd8, hb8⟩
          obtain ⟨q8, cap8, rfl⟩ := hu8.len
          have HB8 := Lib.hid (HB7.out.trans (hb8.mono HB7.out.size))
          clear hu8 hd8 hb8
          obtain ⟨fy, hfy⟩ : ∃ fy, find (cs s) [102] = fy := ⟨_, rfl⟩
          rw [hfy]
          clear hfy
          go_wp2_with fail
          refine (haw.out _).mono ?_
          rintro e w9 ⟨rfl, hb9⟩
          have HB9 := Lib.hid (HB8.out.trans (hb9.mono HB8.out.size))
          clear hb9
          go_wp2_with fail
          go_ret
          exact ⟨rfl, HB9.out⟩
        · have hB : dnA f i = false := by unfold dnA; simp; omega
          have hS : ((s.length : Int) == (i : Int)) = true := by
            have := HS.out
            unfold lnA at this
            rw [if_neg (by omega)] at this
            simp; omega
          have g1 : decide (0 ≤ f) = true := by simp; omega
          have g2 : decide (f < (i : Int)) = false := by simp; omega
          clear h1 h2
          have hd := HD.out
          rw [hB] at hd
          have HDD := Lib.hid hd
          have hdn := Lib.hid (down_any wr d _ hd.down)
          have hrd := Lib.hid (read_any hd [102] (by decide))
          obtain ⟨fz, hfz⟩ : ∃ fz, find (st s (fuA f i) false) [102] = fz := ⟨_, rfl⟩
          rw [hfz] at hrd
          clear hfz
          clear hd hB
          go_wp2_with fail
          refine (hdn.out).mono ?_
          rintro e w3 ⟨rfl, rfl⟩
          go_wp2_with fail
          refine (hrd.out).mono ?_
          rintro e w4 ⟨u4', rfl, hu4, hd4, hb4⟩
          obtain ⟨q4, cap4, rfl⟩ := hu4.len
          have HD4 := Lib.hid hd4
          have HB4 := Lib.hid (HB.out.trans (hb4.mono HB.out.size))
          clear hu4 hd4 hb4
          go_wp2_with fail
          have hD5 : DiskAt (w4.alloc (.cells #[.int .i64 1000] 3)) (fun j => w.heap.size ≤ j ∧ j ≠ w4.heap.size) d _ := (HD4.out.mono (G := fun j => w.heap.size ≤ j ∧ j ≠ w4.heap.size) (fun j hj hl => ⟨hj, by omega⟩)).alloc _
          have hI5 : Ints (w4.alloc (.cells #[.int .i64 1000] 3)) (fun j => ¬ (w.heap.size ≤ j ∧ j ≠ w4.heap.size)) (.slice (some ⟨w4.heap.size, 0, none⟩) 1 1) [1000] := by
            refine .inr ⟨⟨w4.heap.size, 0, none⟩, 1, rfl, fun _ => ⟨fun h => h.2 rfl, by simp⟩, fun j hj => ?_⟩
            have : j = 0 := by simp at hj; omega
            subst this
            exact cell_one w4 (.int .i64 1000) 3 0 _ rfl
          refine (crash_any hD5 _ [1000] hI5 (by decide)).mono ?_
          rw [crash_st (by rw [HS.out]; omega)]
          rintro e w5 ⟨rfl, hd5, hk5⟩
          have HD5 : Hid (DiskAt w5 (fun j => w.heap.size ≤ j) d (cs s)) := Lib.hid (hd5.mono (fun j hj _ => hj.1))
          have HB5 : Hid (Below w.heap.size w w5) := Lib.hid (HB4.out.trans ((((Kept.refl (fun j => w.heap.size ≤ j) w4).alloc (.cells #[.int .i64 1000] 3)).trans (hk5.mono (fun j hj => hj.1))).below HB4.out.size (fun j hj => hj)))
          have hdn5 := Lib.hid (down_any w5 d _ HD5.out.down)
          clear hd5 hk5 hD5 hI5
          go_wp2_with fail
          refine (hdn5.out).mono ?_
          rintro e w6 ⟨rfl, rfl⟩
          go_wp2_with fail
          refine (sync_any HD5.out [103] (by decide)).mono ?_
          rw [sync_cs, syncD_cs]
          rintro e w7 ⟨rfl, hd7, hk7⟩
          have HD7 := Lib.hid hd7
          have HB7 := Lib.hid (HB5.out.trans (hk7.below HB5.out.size (fun j hj => hj)))
          clear hd7 hk7
          go_wp2_with fail
          refine (read_any HD7.out [102] (by decide)).mono ?_
          rw [read_cs]
          rintro e w8 ⟨u8', rfl, hu8, hd8, hb8⟩
          obtain ⟨q8, cap8, rfl⟩ := hu8.len
          have HB8 := Lib.hid (HB7.out.trans (hb8.mono HB7.out.size))
          clear hu8 hd8 hb8
          obtain ⟨fy, hfy⟩ : ∃ fy, find (cs s) [102] = fy := ⟨_, rfl⟩
          rw [hfy]
          clear hfy
          go_wp2_with fail
          refine (haw.out _).mono ?_
          rintro e w9 ⟨rfl, hb9⟩
          have HB9 := Lib.hid (HB8.out.trans (hb9.mono HB8.out.size))
          clear hb9
          go_wp2_with fail
          go_ret
          exact ⟨rfl, HB9.out⟩
end Go.Proofs.Ytfkefppabjbbdaa
