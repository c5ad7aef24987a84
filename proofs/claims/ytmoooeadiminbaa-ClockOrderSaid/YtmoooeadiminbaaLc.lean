/- What isn't late by a slack isn't by a greater one: the law. -/
import Derived.Test.YtmoooeadiminbaaLa
import Derived.BigRegion
import Derived.Deep.RegionHeld3
namespace Go.Proofs.Ytmoooeadiminbaa
open Go.RowKit Go.Maps
set_option linter.unusedVariables false
/-- Two clocks that have heard the same, the second one by a greater slack. -/
structure SlackR (a b : Ck) (more : Int) : Prop where
  L : b.L = a.L
  now : b.now = a.now
  idle : b.idle = a.idle
  slack : b.slack = a.slack + more
  mark : b.mark ≤ a.mark
theorem act_same {a b : Ck} (h1 : b.now = a.now) (h2 : b.idle = a.idle) (s : Sr) : act b s = act a s := by unfold act; rw [h1, h2]
theorem told_slack {a b : Ck} {more : Int} (hL : b.L = a.L) (h1 : b.now = a.now) (h2 : b.idle = a.idle) (hs : b.slack = a.slack + more) (h0 : 0 ≤ more) : told b ≤ told a := by
  rcases told_cases a with ⟨e, hn⟩ | ⟨s, g1, g2, e, g3⟩
  · rw [told_none (k := b) (fun s hs => by rw [act_same h1 h2]; exact hn s (by rw [← hL]; exact hs))]
    omega
  · rw [told_some (k := b) (s := s) (by rw [hL]; exact g1) (by rw [act_same h1 h2]; exact g2) (fun x hx ha => g3 x (by rw [← hL]; exact hx) (by rw [← act_same h1 h2]; exact ha))]
    omega
theorem SlackR.fol {a b : Ck} {more : Int} (h : SlackR a b more) (h0 : 0 ≤ more) : SlackR (folC a) (folC b) more :=
  ⟨h.L, h.now, h.idle, h.slack, by
    have h1 := told_slack h.L h.now h.idle h.slack h0
    have h2 := h.mark
    show max b.mark (told b) ≤ max a.mark (told a)
    omega⟩
theorem SlackR.time {a b : Ck} {more : Int} (h : SlackR a b more) (t : Int) : SlackR (timeC a t) (timeC b t) more := ⟨h.L, by show max b.now _ = max a.now _; rw [h.now], h.idle, h.slack, h.mark⟩
theorem SlackR.tick {a b : Ck} {more : Int} (h : SlackR a b more) (h0 : 0 ≤ more) (t : Int) : SlackR (tickC a t) (tickC b t) more := (h.time t).fol h0
theorem SlackR.b {a b : Ck} {more : Int} (h : SlackR a b more) (h0 : 0 ≤ more) {n : List UInt8} {x t : Int} (hb : hearB a n x t = true) : hearB b n x t = true := by
  obtain ⟨h1, h2, h3⟩ := hearOk_iff.1 hb
  exact hearOk_iff.2 ⟨h1, h2, by have := (h.tick h0 t).mark; omega⟩
theorem SlackR.hear {a b : Ck} {more : Int} (h : SlackR a b more) (h0 : 0 ≤ more) {n : List UInt8} {x t : Int} (hb : hearB a n x t = true) : SlackR (hearC a n x t) (hearC b n x t) more := by
  have ht := h.tick h0 t
  unfold hearC
  rw [if_pos hb, if_pos (h.b h0 hb)]
  have e : heardC (tickC b t) n = heardC (tickC a t) n := by unfold heardC; rw [ht.L]
  exact SlackR.fol ⟨by show insK _ _ _ = insK _ _ _; rw [e, ht.L, ht.now], ht.now, ht.idle, ht.slack, ht.mark⟩ h0
theorem late_same {a : Ck} {n : List UInt8} {x t : Int} (hb : hearB a n x t = false) : hearC a n x t = tickC a t := by unfold hearC; rw [if_neg (by rw [hb]; simp)]
/-- The first clock has ticked, the second one hasn't; the time is the same. -/
theorem SlackR.stay {a b : Ck} {more : Int} (h : SlackR a b more) (t : Int) (hn : (tickC a t).now = b.now) : SlackR (tickC a t) b more :=
  ⟨h.L, hn.symm, h.idle, h.slack, Int.le_trans h.mark (mark_tick a t)⟩
theorem SlackR.late {a b : Ck} {more : Int} (h : SlackR a b more) (h0 : 0 ≤ more) (ha : OkC a) (t : Int) : SlackR (tickC a t) (tickC b (tickC a t).now) more := by
  have h1 := (ha.tick t).now
  have h2 : near (tickC a t).now = (tickC a t).now := near_id h1.1 h1.2
  have h3 : (tickC a t).now = max a.now (near t) := rfl
  have h4 : (tickC b (tickC a t).now).now = (tickC a t).now := by
    show max b.now (near (tickC a t).now) = _
    rw [h2, h.now]
    omega
  refine ⟨h.L, h4, h.idle, h.slack, ?_⟩
  have h5 : told (timeC b (tickC a t).now) ≤ told (timeC a t) := told_slack h.L h4 h.idle h.slack h0
  have h6 := h.mark
  show max b.mark (told (timeC b (tickC a t).now)) ≤ max a.mark (told (timeC a t))
  omega
theorem slack_new (s m i : Int) (h0 : 0 ≤ s) (h1 : s ≤ 1073741824) (h2 : 0 ≤ m) (h3 : m ≤ 1073741824) : SlackR (newC s i) (newC (s + m) i) m :=
  ⟨rfl, rfl, rfl, by show near (s + m) = near s + m; rw [near_id h0 (by omega), near_id (by omega) (by omega)], Int.le_refl _⟩
/-- A clock's own two blocks. -/
abbrev Two (c B : Nat) : Nat → Prop := fun i => i = c ∨ i = B
theorem ClkM.two {w : World} {F : Nat → Prop} {c B : Nat} {k : Ck} (h : ClkM w F c B k) : ClkM w (Two c B) c B k := ⟨h.self, h.map, .inl rfl, .inr rfl, h.ok⟩
/-- Two clocks in memory, apart. -/
structure Pair (w : World) (B0 : Nat) (c B d D : Nat) (a b : Ck) : Prop where
  mc : ClkM w (Two c B) c B a
  md : ClkM w (Two d D) d D b
  apart : ∀ i, Two c B i → ¬ Two d D i
  lo : B0 ≤ c ∧ B0 ≤ B ∧ B0 ≤ d ∧ B0 ≤ D
theorem Pair.drew {w : World} {B0 c B d D : Nat} {a b : Ck} (h : Pair w B0 c B d D a b) : Pair w.drew B0 c B d D a b := ⟨h.mc.drew, h.md.drew, h.apart, h.lo⟩
theorem Pair.turnC {w w' : World} {B0 c B d D : Nat} {a b a' : Ck} (h : Pair w B0 c B d D a b) (hc : ClkM w' (Two c B) c B a') (hk : Kept (Two c B) w w') (hB : B0 ≤ w.heap.size) : Pair w' B0 c B d D a' b ∧ Below B0 w w' :=
  ⟨⟨hc, h.md.far hk (fun i hi _ h1 => h.apart i h1 hi), h.apart, h.lo⟩, hk.below hB (fun i hi => by have := h.lo; rcases hi with hi | hi <;> omega)⟩
theorem Pair.turnD {w w' : World} {B0 c B d D : Nat} {a b b' : Ck} (h : Pair w B0 c B d D a b) (hd : ClkM w' (Two d D) d D b') (hk : Kept (Two d D) w w') (hB : B0 ≤ w.heap.size) : Pair w' B0 c B d D a b' ∧ Below B0 w w' :=
  ⟨⟨h.mc.far hk (fun i hi _ h1 => h.apart i hi h1), hd, h.apart, h.lo⟩, hk.below hB (fun i hi => by have := h.lo; rcases hi with hi | hi <;> omega)⟩
section
variable {w : World} {B0 c B d D : Nat} {a b : Ck}
theorem Pair.tickC (h : Pair w B0 c B d D a b) (hB : B0 ≤ w.heap.size) (t : Int) (a' : Ck) (e1 : tickC a t = a') :
    Calls Try.prog 12 #[.pointer (some ⟨c, 0, none⟩), .int .i64 t] w fun e w' => e = .returned (.int .i64 a'.mark) ∧ Pair w' B0 c B d D a' b ∧ Below B0 w w' := by
  refine (time_any h.mc t).mono ?_
  rintro e w' ⟨h1, h2, h3⟩
  rw [e1] at h1 h2
  exact ⟨h1, h.turnC h2 h3 hB⟩
theorem Pair.tickD (h : Pair w B0 c B d D a b) (hB : B0 ≤ w.heap.size) (t : Int) (b' : Ck) (e1 : Go.Proofs.Ytmoooeadiminbaa.tickC b t = b') :
    Calls Try.prog 12 #[.pointer (some ⟨d, 0, none⟩), .int .i64 t] w fun e w' => e = .returned (.int .i64 b'.mark) ∧ Pair w' B0 c B d D a b' ∧ Below B0 w w' := by
  refine (time_any h.md t).mono ?_
  rintro e w' ⟨h1, h2, h3⟩
  rw [e1] at h1 h2
  exact ⟨h1, h.turnD h2 h3 hB⟩
theorem Pair.hearC (h : Pair w B0 c B d D a b) (hB : B0 ≤ w.heap.size) (n : List UInt8) (x t : Int) (a' : Ck) (r : Bool) (hn : n.length ≤ 1000000) (hL : a.L.length ≤ 1000000) (e1 : hearC a n x t = a') (e2 : hearB a n x t = r) :
    Calls Try.prog 13 #[.pointer (some ⟨c, 0, none⟩), .string (bs n), .int .i64 x, .int .i64 t] w fun e w' => e = .returned (.bool r) ∧ Pair w' B0 c B d D a' b ∧ Below B0 w w' := by
  refine (hear_any h.mc n x t hn hL).mono ?_
  rintro e w' ⟨h1, h2, h3⟩
  rw [e1] at h2
  exact ⟨by rw [h1, e2], h.turnC h2 h3 hB⟩
theorem Pair.hearD (h : Pair w B0 c B d D a b) (hB : B0 ≤ w.heap.size) (n : List UInt8) (x t : Int) (b' : Ck) (r : Bool) (hn : n.length ≤ 1000000) (hL : b.L.length ≤ 1000000) (e1 : Go.Proofs.Ytmoooeadiminbaa.hearC b n x t = b') (e2 : hearB b n x t = r) :
    Calls Try.prog 13 #[.pointer (some ⟨d, 0, none⟩), .string (bs n), .int .i64 x, .int .i64 t] w fun e w' => e = .returned (.bool r) ∧ Pair w' B0 c B d D a b' ∧ Below B0 w w' := by
  refine (hear_any h.md n x t hn hL).mono ?_
  rintro e w' ⟨h1, h2, h3⟩
  rw [e1] at h2
  exact ⟨by rw [h1, e2], h.turnD h2 h3 hB⟩
end
set_option maxHeartbeats 4000000 in
set_option maxRecDepth 100000 in
theorem slack_few (sl mo id : Int) (v : Value) (l : List Ac) (w : World) (hv : Acs w w.heap.size v l) (hf : fewL l = true) (hs : 0 ≤ sl ∧ sl ≤ 1073741824 ∧ 0 ≤ mo ∧ mo ≤ 1073741824) :
    Calls Try.prog 5 #[.int .i64 sl, .int .i64 mo, .int .i64 id, v] w fun e w' => e = .returned (.bool true) ∧ Below w.heap.size w w' := by
  obtain ⟨q, cap, rfl, hcap, hmax, hq⟩ := hv.shape
  obtain ⟨B0, hB0⟩ : ∃ B0, w.heap.size = B0 := ⟨_, rfl⟩
  have haw := Lib.hid (awake_any w)
  rw [hB0] at hv haw ⊢
  have hlen := fewL_len hf
  have HFEW : Hid (∀ wx, Below B0 w wx → Calls Try.prog 8 #[.slice q l.length cap] wx fun e w' => e = .returned (.bool true) ∧ w' = wx) := Lib.hid (fun wx hb => by
    have := few_any _ l B0 wx (hv.below hb)
    rwa [hf] at this)
  obtain ⟨N, hN⟩ : ∃ N, l.length = N := ⟨_, rfl⟩
  rw [hN] at hv hlen HFEW ⊢
  have HV := Lib.hid hv
  have HFE := Lib.hid hf
  have HN := Lib.hid hN
  have g1 : decide (sl < 0) = false := by simp; omega
  have g2 : decide (1073741824 < sl) = false := by simp; omega
  have g3 : decide (mo < 0) = false := by simp; omega
  have g4 : decide (1073741824 < mo) = false := by simp; omega
  have y1 : IntKind.i64.wrap (sl + mo) = sl + mo := wrap_in (by omega) (by omega)
  have HS := Lib.hid hs
  clear hv hf hN hq hcap hs
  go_enter Try.func5, Try.ntmps5
  go_wp2_with fail
  refine (haw.out).mono ?_
  rintro e w1 ⟨rfl, hb1⟩
  have hs1 : B0 ≤ w1.heap.size := by have := hb1.size; omega
  have HB1 := Lib.hid hb1
  clear hb1 haw
  go_wp2_with fail
  refine (HFEW.out w1 HB1.out).mono ?_
  rintro e w2 ⟨rfl, rfl⟩
  go_wp2_with fail
  refine (new_any sl id w2 (fun i => B0 ≤ i) (fun i hi => by omega)).mono ?_
  rintro e w3 ⟨c, B, rfl, -, hc3, hb3⟩
  have HC3 := Lib.hid hc3
  have HB3 := Lib.hid (HB1.out.trans (hb3.mono hs1))
  clear hc3 hb3 HFEW hs1
  go_wp2_with fail
  refine (new_any (sl + mo) id w3 (fun i => w3.heap.size ≤ i) (fun i hi => hi)).mono ?_
  rintro e w4 ⟨d, D, rfl, -, hd4, hb4⟩
  have HP4 : Hid (Pair w4 B0 c B d D (newC sl id) (newC (sl + mo) id)) := Lib.hid (by
    have h1 := HC3.out.below hb4
    have h2 := HC3.out.self.lt
    have h3 := World.ownsMap.lt HC3.out.map
    have h4 : w3.heap.size ≤ d := hd4.fc
    have h5 : w3.heap.size ≤ D := hd4.fB
    have h6 := HB3.out.size
    refine ⟨h1.two, hd4.two, fun i hi hj => ?_, HC3.out.fc, HC3.out.fB, by omega, by omega⟩
    rcases hi with hi | hi <;> rcases hj with hj | hj <;> omega)
  have HB4 : Hid (Below B0 w w4) := Lib.hid (HB3.out.trans (hb4.mono (by have := HB3.out.size; omega)))
  clear hd4 hb4
  go_wp2_with fail
  go_loopw [11] (fun iv wr => ∃ (i : Nat) (a b : Ck), i ≤ N ∧ iv = .int .i64 i ∧ Hid (SlackR a b mo) ∧ Hid (a.L.length ≤ i) ∧ Hid (Pair wr B0 c B d D a b) ∧ Hid (Below B0 w wr)) (fun iv _ => N - (intOf iv).toNat)
  case atStart => exact ⟨0, _, _, by omega, rfl, slack_new sl mo id HS.out.1 HS.out.2.1 HS.out.2.2.1 HS.out.2.2.2, by simp [newC, Hid], HP4.out, HB4.out⟩
  case round =>
    obtain ⟨i, a, b, hi, rfl, HR0, HLE, HP0, HB⟩ := hrel
    by_cases hlt : i < N
    · have hil : i < l.length := by rw [HN.out]; exact hlt
      have hVr := Lib.hid (HV.out.below HB.out)
      obtain ⟨ad, rfl, hab, c0, c1, c2, c3⟩ := hVr.out.at i hil
      have hnm := fewL_at HFE.out hil
      obtain ⟨o, ho⟩ : ∃ o, l[i] = o := ⟨_, rfl⟩
      rw [ho] at c0 c1 c2 c3 hnm
      obtain ⟨kind, nm, x, t⟩ := o
      simp only at c0 c1 c2 c3 hnm
      have hsz : B0 ≤ wr.heap.size := by have := HB.out.size; omega
      have HIN : Hid (∀ wx, Below B0 wr wx → AcIn wx ad i ⟨kind, nm, x, t⟩) := Lib.hid (fun wx hb => by
        refine AcIn.below (B := B0) ?_ hb hab
        exact ⟨c0, c1, c2, c3⟩)
      have hm0 : 0 ≤ mo := HS.out.2.2.1
      clear ho hil hVr
      by_cases hk0 : kind = 0
      · have g0 : (kind == 0) = true := by simpa using hk0
        obtain ⟨a', ha'⟩ : ∃ a', tickC a t = a' := ⟨_, rfl⟩
        obtain ⟨b', hb'⟩ : ∃ b', tickC b t = b' := ⟨_, rfl⟩
        have HR : Hid (SlackR a' b' mo) := Lib.hid (by rw [← ha', ← hb']; exact HR0.out.tick hm0 t)
        have HLE' : Hid (a'.L.length ≤ i + 1) := Lib.hid (by rw [← ha']; exact tick_len HLE.out t)
        have HA' := Lib.hid ha'
        have HB' := Lib.hid hb'
        clear hk0 ha' hb'
        go_wp2_with fail
        refine (HP0.out.tickC hsz t a' HA'.out).mono ?_
        rintro e w5 ⟨rfl, hp5, hb5⟩
        have HP5 := Lib.hid hp5
        have HB5' := Lib.hid hb5
        obtain ⟨d0, d1, d2, d3⟩ := HIN.out w5 hb5
        have hsz5 : B0 ≤ w5.heap.size := by have := hb5.size; omega
        clear hp5 hb5 d0 d1 d2
        go_wp2_with fail
        refine (HP5.out.tickD hsz5 t b' HB'.out).mono ?_
        rintro e w6 ⟨rfl, hp6, hb6⟩
        have HP := Lib.hid hp6
        have HB5 : Hid (Below B0 w w6) := Lib.hid ((HB.out.trans HB5'.out).trans hb6)
        clear hp6 hb6
        go_wp2_with fail
        refine (now_any HP.out.mc).mono ?_
        rintro e w6 ⟨rfl, rfl⟩
        go_wp2_with fail
        refine (now_any HP.out.md).mono ?_
        rintro e w6 ⟨rfl, rfl⟩
        rw [HR.out.now]
        go_wp2_with fail
        refine (mark_any HP.out.md).mono ?_
        rintro e w6 ⟨rfl, rfl⟩
        go_wp2_with fail
        refine (mark_any HP.out.mc).mono ?_
        rintro e w6 ⟨rfl, rfl⟩
        have z1 : decide (a'.mark < b'.mark) = false := by have := HR.out.mark; simp; omega
        go_wp2_with fail
        refine ⟨⟨i + 1, a', b', by omega, by simp, HR, HLE', HP, HB5⟩, ?_⟩
        simp only [intOf]
        omega
      · have g0 : (kind == 0) = false := by simpa using hk0
        obtain ⟨a', ha'⟩ : ∃ a', hearC a nm x t = a' := ⟨_, rfl⟩
        have HLE' : Hid (a'.L.length ≤ i + 1) := Lib.hid (by rw [← ha']; exact hear_len' HLE.out nm x t)
        have hLa : a.L.length ≤ 1000000 := by have := HLE.out; omega
        have hLb : b.L.length ≤ 1000000 := by rw [HR0.out.L]; exact hLa
        have HLA := Lib.hid hLa
        have HLB := Lib.hid hLb
        cases hr : hearB a nm x t with
        | true =>
          obtain ⟨b', hb'⟩ : ∃ b', hearC b nm x t = b' := ⟨_, rfl⟩
          have HR : Hid (SlackR a' b' mo) := Lib.hid (by rw [← ha', ← hb']; exact HR0.out.hear hm0 hr)
          have HHC : Hid (∀ wx, Pair wx B0 c B d D a b → B0 ≤ wx.heap.size → Calls Try.prog 13 #[.pointer (some ⟨c, 0, none⟩), .string (bs nm), .int .i64 x, .int .i64 t] wx fun e w' => e = .returned (.bool true) ∧ Pair w' B0 c B d D a' b ∧ Below B0 wx w') := Lib.hid (fun wx hx hs => hx.hearC hs nm x t a' true (by omega) HLA.out ha' hr)
          have HHD : Hid (∀ wx, Pair wx B0 c B d D a' b → B0 ≤ wx.heap.size → Calls Try.prog 13 #[.pointer (some ⟨d, 0, none⟩), .string (bs nm), .int .i64 x, .int .i64 t] wx fun e w' => e = .returned (.bool true) ∧ Pair w' B0 c B d D a' b' ∧ Below B0 wx w') := Lib.hid (fun wx hx hs => hx.hearD hs nm x t b' true (by omega) HLB.out hb' (HR0.out.b hm0 hr))
          clear hk0 ha' hb' hr hLa hLb
          have hpd := HP0.out.drew
          have hszd : B0 ≤ wr.drew.heap.size := hsz
          have hcd : c ≠ d := fun e => HP0.out.apart c (.inl rfl) (.inl e)
          go_wp2_with fail
          go_region_held3 (fun w' => w'.cell? ⟨(ad.add (i * 4)).block, (ad.add (i * 4)).off + 1, none⟩ = some (.string (bs nm)) ∧ w'.cell? ⟨(ad.add (i * 4)).block, (ad.add (i * 4)).off + 2, none⟩ = some (.int .i64 x) ∧ w'.cell? ⟨(ad.add (i * 4)).block, (ad.add (i * 4)).off + 3, none⟩ = some (.int .i64 t)) (go_keep) (first | (go_at_call 13; refine (HHD.out _ HP5.out hsz5).mono ?_; rintro e w6 ⟨rfl, hp6, hb6⟩; have HP := Lib.hid hp6; have HB6' := Lib.hid (HB5'.out.trans hb6); obtain ⟨q0, q1, q2, q3⟩ := HIN.out w6 HB6'.out; clear hp6 hb6) | (go_at_call 13; refine (HHC.out _ hpd hszd).mono ?_; rintro e w5 ⟨rfl, hp5, hb5⟩; have HP5 := Lib.hid hp5; have HB5' := Lib.hid (Below.trans (Below.drew (Below.refl B0 wr)) hb5); obtain ⟨d0, d1, d2, d3⟩ := HIN.out w5 HB5'.out; have hsz5 : B0 ≤ w5.heap.size := Nat.le_trans hsz HB5'.out.size; clear hp5 hb5) | fail)
          have HB5 : Hid (Below B0 w w6) := Lib.hid (HB.out.trans HB6'.out)
          clear q0 q1 q2 q3 d0 d1 d2 d3 c0 c1 c2 c3
          go_wp2_with fail
          refine (now_any HP.out.mc).mono ?_
          rintro e w6 ⟨rfl, rfl⟩
          go_wp2_with fail
          refine (now_any HP.out.md).mono ?_
          rintro e w6 ⟨rfl, rfl⟩
          rw [HR.out.now]
          go_wp2_with fail
          refine (mark_any HP.out.md).mono ?_
          rintro e w6 ⟨rfl, rfl⟩
          go_wp2_with fail
          refine (mark_any HP.out.mc).mono ?_
          rintro e w6 ⟨rfl, rfl⟩
          have z1 : decide (a'.mark < b'.mark) = false := by have := HR.out.mark; simp; omega
          go_wp2_with fail
          refine ⟨⟨i + 1, a', b', by omega, by simp, HR, HLE', HP, HB5⟩, ?_⟩
          simp only [intOf]
          omega
        | false =>
          have HA' : Hid (a' = tickC a t) := Lib.hid (by rw [← ha']; exact late_same hr)
          have HHC : Hid (∀ wx, Pair wx B0 c B d D a b → B0 ≤ wx.heap.size → Calls Try.prog 13 #[.pointer (some ⟨c, 0, none⟩), .string (bs nm), .int .i64 x, .int .i64 t] wx fun e w' => e = .returned (.bool false) ∧ Pair w' B0 c B d D a' b ∧ Below B0 wx w') := Lib.hid (fun wx hx hs => hx.hearC hs nm x t a' false (by omega) HLA.out ha' hr)
          clear hk0 ha' hr hLa hLb
          go_wp2_with fail
          refine wp_region_held_drew (S := fun w' => w'.cell? ⟨(ad.add (i * 4)).block, (ad.add (i * 4)).off + 1, none⟩ = some (.string (bs nm)) ∧ w'.cell? ⟨(ad.add (i * 4)).block, (ad.add (i * 4)).off + 2, none⟩ = some (.int .i64 x) ∧ w'.cell? ⟨(ad.add (i * 4)).block, (ad.add (i * 4)).off + 3, none⟩ = some (.int .i64 t)) (by kernel_rfl) (by exact ⟨c1, c2, c3⟩) ?_
          intro hH
          change wpAnyH _ _ _ _ _ 37 #[false, false, false, false, false, false, false, false, false, false, false, false, false, false, false, false, false, false, false, false, false, false, false, false, false, false, false, false, false, false, false, false, false, false, false, false, false] _ _
          refine wpAnyH_take (i := 0) (oi := ⟨some 73, Op.move (Operand.tmp 9), 25, _, _, none⟩) (v := ?_) rfl (by kernel_rfl) (by kernel_rfl) (by kernel_rfl) (fun _ _ _ h => h) (Or.inl ⟨by rfl, ?_⟩) (by assumption) ?_
          rotate_left
          · intro w hSw
            (try dsimp only at hSw)
            go_simp
            (try with_reducible rfl)
          (try simp only [Act.put, List.setIfInBounds_toArray, List.set_cons_zero, List.set_cons_succ])
          refine wpAnyH_take (i := 1) (oi := ⟨some 74, Op.move (Operand.tmp 3), 22, _, _, none⟩) (v := ?_) rfl (by kernel_rfl) (by kernel_rfl) (by kernel_rfl) (fun _ _ _ h => h) (Or.inl ⟨by rfl, ?_⟩) (by assumption) ?_
          rotate_left
          · intro w hSw
            (try dsimp only at hSw)
            go_simp
            (try with_reducible rfl)
          (try simp only [Act.put, List.setIfInBounds_toArray, List.set_cons_zero, List.set_cons_succ])
          refine wpAnyH_take (i := 2) (oi := ⟨some 75, Op.move (Operand.tmp 11), 3, _, _, none⟩) (v := ?_) rfl (by kernel_rfl) (by kernel_rfl) (by kernel_rfl) (fun _ _ _ h => h) (Or.inl ⟨by rfl, ?_⟩) (by assumption) ?_
          rotate_left
          · intro w hSw
            (try dsimp only at hSw)
            go_simp
            (try with_reducible rfl)
          (try simp only [Act.put, List.setIfInBounds_toArray, List.set_cons_zero, List.set_cons_succ])
          refine wpAnyH_take (i := 3) (oi := ⟨some 76, Op.indexAddr 22 (Operand.tmp 74) (Operand.tmp 75), 0, _, _, none⟩) (v := ?_) rfl (by kernel_rfl) (by kernel_rfl) (by kernel_rfl) (fun _ _ _ h => h) (Or.inl ⟨by rfl, ?_⟩) (by assumption) ?_
          rotate_left
          · intro w hSw
            (try dsimp only at hSw)
            go_simp
            (try with_reducible rfl)
          (try simp only [Act.put, List.setIfInBounds_toArray, List.set_cons_zero, List.set_cons_succ])
          refine wpAnyH_take (i := 4) (oi := ⟨some 77, Op.fieldAddr 29 (Operand.tmp 76) 1, 0, _, _, none⟩) (v := ?_) rfl (by kernel_rfl) (by kernel_rfl) (by kernel_rfl) (fun _ _ _ h => h) (Or.inl ⟨by rfl, ?_⟩) (by assumption) ?_
          rotate_left
          · intro w hSw
            (try dsimp only at hSw)
            go_simp
            (try with_reducible rfl)
          (try simp only [Act.put, List.setIfInBounds_toArray, List.set_cons_zero, List.set_cons_succ])
          refine wpAnyH_take (i := 5) (oi := ⟨some 78, Op.load 9 (Operand.tmp 77), 9, _, _, none⟩) (v := ?_) rfl (by kernel_rfl) (by kernel_rfl) (by kernel_rfl) (fun _ _ _ h => h) (Or.inl ⟨by rfl, ?_⟩) (by assumption) ?_
          rotate_left
          · intro w hSw
            (try dsimp only at hSw)
            go_simp
            (try with_reducible rfl)
          (try simp only [Act.put, List.setIfInBounds_toArray, List.set_cons_zero, List.set_cons_succ])
          refine wpAnyH_take (i := 6) (oi := ⟨some 79, Op.move (Operand.tmp 3), 22, _, _, none⟩) (v := ?_) rfl (by kernel_rfl) (by kernel_rfl) (by kernel_rfl) (fun _ _ _ h => h) (Or.inl ⟨by rfl, ?_⟩) (by assumption) ?_
          rotate_left
          · intro w hSw
            (try dsimp only at hSw)
            go_simp
            (try with_reducible rfl)
          (try simp only [Act.put, List.setIfInBounds_toArray, List.set_cons_zero, List.set_cons_succ])
          refine wpAnyH_take (i := 7) (oi := ⟨some 80, Op.move (Operand.tmp 11), 3, _, _, none⟩) (v := ?_) rfl (by kernel_rfl) (by kernel_rfl) (by kernel_rfl) (fun _ _ _ h => h) (Or.inl ⟨by rfl, ?_⟩) (by assumption) ?_
          rotate_left
          · intro w hSw
            (try dsimp only at hSw)
            go_simp
            (try with_reducible rfl)
          (try simp only [Act.put, List.setIfInBounds_toArray, List.set_cons_zero, List.set_cons_succ])
          refine wpAnyH_take (i := 8) (oi := ⟨some 81, Op.indexAddr 22 (Operand.tmp 79) (Operand.tmp 80), 0, _, _, none⟩) (v := ?_) rfl (by kernel_rfl) (by kernel_rfl) (by kernel_rfl) (fun _ _ _ h => h) (Or.inl ⟨by rfl, ?_⟩) (by assumption) ?_
          rotate_left
          · intro w hSw
            (try dsimp only at hSw)
            go_simp
            (try with_reducible rfl)
          (try simp only [Act.put, List.setIfInBounds_toArray, List.set_cons_zero, List.set_cons_succ])
          refine wpAnyH_take (i := 9) (oi := ⟨some 82, Op.fieldAddr 29 (Operand.tmp 81) 2, 0, _, _, none⟩) (v := ?_) rfl (by kernel_rfl) (by kernel_rfl) (by kernel_rfl) (fun _ _ _ h => h) (Or.inl ⟨by rfl, ?_⟩) (by assumption) ?_
          rotate_left
          · intro w hSw
            (try dsimp only at hSw)
            go_simp
            (try with_reducible rfl)
          (try simp only [Act.put, List.setIfInBounds_toArray, List.set_cons_zero, List.set_cons_succ])
          refine wpAnyH_take (i := 10) (oi := ⟨some 83, Op.load 3 (Operand.tmp 82), 3, _, _, none⟩) (v := ?_) rfl (by kernel_rfl) (by kernel_rfl) (by kernel_rfl) (fun _ _ _ h => h) (Or.inl ⟨by rfl, ?_⟩) (by assumption) ?_
          rotate_left
          · intro w hSw
            (try dsimp only at hSw)
            go_simp
            (try with_reducible rfl)
          (try simp only [Act.put, List.setIfInBounds_toArray, List.set_cons_zero, List.set_cons_succ])
          refine wpAnyH_take (i := 11) (oi := ⟨some 84, Op.move (Operand.tmp 3), 22, _, _, none⟩) (v := ?_) rfl (by kernel_rfl) (by kernel_rfl) (by kernel_rfl) (fun _ _ _ h => h) (Or.inl ⟨by rfl, ?_⟩) (by assumption) ?_
          rotate_left
          · intro w hSw
            (try dsimp only at hSw)
            go_simp
            (try with_reducible rfl)
          (try simp only [Act.put, List.setIfInBounds_toArray, List.set_cons_zero, List.set_cons_succ])
          refine wpAnyH_take (i := 12) (oi := ⟨some 85, Op.move (Operand.tmp 11), 3, _, _, none⟩) (v := ?_) rfl (by kernel_rfl) (by kernel_rfl) (by kernel_rfl) (fun _ _ _ h => h) (Or.inl ⟨by rfl, ?_⟩) (by assumption) ?_
          rotate_left
          · intro w hSw
            (try dsimp only at hSw)
            go_simp
            (try with_reducible rfl)
          (try simp only [Act.put, List.setIfInBounds_toArray, List.set_cons_zero, List.set_cons_succ])
          refine wpAnyH_take (i := 13) (oi := ⟨some 86, Op.indexAddr 22 (Operand.tmp 84) (Operand.tmp 85), 0, _, _, none⟩) (v := ?_) rfl (by kernel_rfl) (by kernel_rfl) (by kernel_rfl) (fun _ _ _ h => h) (Or.inl ⟨by rfl, ?_⟩) (by assumption) ?_
          rotate_left
          · intro w hSw
            (try dsimp only at hSw)
            go_simp
            (try with_reducible rfl)
          (try simp only [Act.put, List.setIfInBounds_toArray, List.set_cons_zero, List.set_cons_succ])
          refine wpAnyH_take (i := 14) (oi := ⟨some 87, Op.fieldAddr 29 (Operand.tmp 86) 3, 0, _, _, none⟩) (v := ?_) rfl (by kernel_rfl) (by kernel_rfl) (by kernel_rfl) (fun _ _ _ h => h) (Or.inl ⟨by rfl, ?_⟩) (by assumption) ?_
          rotate_left
          · intro w hSw
            (try dsimp only at hSw)
            go_simp
            (try with_reducible rfl)
          (try simp only [Act.put, List.setIfInBounds_toArray, List.set_cons_zero, List.set_cons_succ])
          refine wpAnyH_take (i := 15) (oi := ⟨some 88, Op.load 3 (Operand.tmp 87), 3, _, _, none⟩) (v := ?_) rfl (by kernel_rfl) (by kernel_rfl) (by kernel_rfl) (fun _ _ _ h => h) (Or.inl ⟨by rfl, ?_⟩) (by assumption) ?_
          rotate_left
          · intro w hSw
            (try dsimp only at hSw)
            go_simp
            (try with_reducible rfl)
          (try simp only [Act.put, List.setIfInBounds_toArray, List.set_cons_zero, List.set_cons_succ])
          refine wpAnyH_ready (rs := [16]) (by kernel_rfl) (by simp) ?_
          refine AllReadyH.cons (o := ⟨some 89, Op.call { callee := Callee.value (Operand.func 13), args := #[Operand.tmp 73, Operand.tmp 78, Operand.tmp 83, Operand.tmp 88], argTypes := #[25, 9, 3, 3] }, 4, _, _, none⟩) rfl (fun K hK => ?_) AllReadyH.nil
          go_simp
          refine (HHC.out _ HP0.out.drew hsz).mono ?_
          rintro e w5 ⟨rfl, hp5, hb5⟩
          obtain ⟨d0, d1, d2, d3⟩ := HIN.out w5 (Below.trans (Below.drew (Below.refl B0 wr)) hb5)
          (try go_simp)
          refine hK.out _ _ (by exact ⟨d1, d2, d3⟩) (fun hH => ?_)
          clear hK K
          (try simp only [List.setIfInBounds_toArray, List.set_cons_zero, List.set_cons_succ])
          refine wpAnyH_take (i := 17) (oi := ⟨some 90, Op.move (Operand.tmp 89), 4, _, _, none⟩) (v := ?_) rfl (by kernel_rfl) (by kernel_rfl) (by kernel_rfl) (fun _ _ _ h => h) (Or.inl ⟨by rfl, ?_⟩) (by assumption) ?_
          rotate_left
          · intro w hSw
            (try dsimp only at hSw)
            go_simp
            (try with_reducible rfl)
          (try simp only [Act.put, List.setIfInBounds_toArray, List.set_cons_zero, List.set_cons_succ])
          refine wpAnyH_take (i := 18) (oi := ⟨some 91, Op.move (Operand.tmp 10), 25, _, _, some (17, true)⟩) (v := undef) rfl (by kernel_rfl) (by kernel_rfl) (by kernel_rfl) (fun _ _ _ h => h) (Or.inr ⟨by kernel_rfl, rfl⟩) (by assumption) ?_
          (try simp only [Act.put, List.setIfInBounds_toArray, List.set_cons_zero, List.set_cons_succ])
          refine wpAnyH_take (i := 19) (oi := ⟨some 92, Op.move (Operand.tmp 3), 22, _, _, some (17, true)⟩) (v := undef) rfl (by kernel_rfl) (by kernel_rfl) (by kernel_rfl) (fun _ _ _ h => h) (Or.inr ⟨by kernel_rfl, rfl⟩) (by assumption) ?_
          (try simp only [Act.put, List.setIfInBounds_toArray, List.set_cons_zero, List.set_cons_succ])
          refine wpAnyH_take (i := 20) (oi := ⟨some 93, Op.move (Operand.tmp 11), 3, _, _, some (17, true)⟩) (v := undef) rfl (by kernel_rfl) (by kernel_rfl) (by kernel_rfl) (fun _ _ _ h => h) (Or.inr ⟨by kernel_rfl, rfl⟩) (by assumption) ?_
          (try simp only [Act.put, List.setIfInBounds_toArray, List.set_cons_zero, List.set_cons_succ])
          refine wpAnyH_take (i := 21) (oi := ⟨some 94, Op.indexAddr 22 (Operand.tmp 92) (Operand.tmp 93), 0, _, _, some (17, true)⟩) (v := undef) rfl (by kernel_rfl) (by kernel_rfl) (by kernel_rfl) (fun _ _ _ h => h) (Or.inr ⟨by kernel_rfl, rfl⟩) (by assumption) ?_
          (try simp only [Act.put, List.setIfInBounds_toArray, List.set_cons_zero, List.set_cons_succ])
          refine wpAnyH_take (i := 22) (oi := ⟨some 95, Op.fieldAddr 29 (Operand.tmp 94) 1, 0, _, _, some (17, true)⟩) (v := undef) rfl (by kernel_rfl) (by kernel_rfl) (by kernel_rfl) (fun _ _ _ h => h) (Or.inr ⟨by kernel_rfl, rfl⟩) (by assumption) ?_
          (try simp only [Act.put, List.setIfInBounds_toArray, List.set_cons_zero, List.set_cons_succ])
          refine wpAnyH_take (i := 23) (oi := ⟨some 96, Op.load 9 (Operand.tmp 95), 9, _, _, some (17, true)⟩) (v := undef) rfl (by kernel_rfl) (by kernel_rfl) (by kernel_rfl) (fun _ _ _ h => h) (Or.inr ⟨by kernel_rfl, rfl⟩) (by assumption) ?_
          (try simp only [Act.put, List.setIfInBounds_toArray, List.set_cons_zero, List.set_cons_succ])
          refine wpAnyH_take (i := 24) (oi := ⟨some 97, Op.move (Operand.tmp 3), 22, _, _, some (17, true)⟩) (v := undef) rfl (by kernel_rfl) (by kernel_rfl) (by kernel_rfl) (fun _ _ _ h => h) (Or.inr ⟨by kernel_rfl, rfl⟩) (by assumption) ?_
          (try simp only [Act.put, List.setIfInBounds_toArray, List.set_cons_zero, List.set_cons_succ])
          refine wpAnyH_take (i := 25) (oi := ⟨some 98, Op.move (Operand.tmp 11), 3, _, _, some (17, true)⟩) (v := undef) rfl (by kernel_rfl) (by kernel_rfl) (by kernel_rfl) (fun _ _ _ h => h) (Or.inr ⟨by kernel_rfl, rfl⟩) (by assumption) ?_
          (try simp only [Act.put, List.setIfInBounds_toArray, List.set_cons_zero, List.set_cons_succ])
          refine wpAnyH_take (i := 26) (oi := ⟨some 99, Op.indexAddr 22 (Operand.tmp 97) (Operand.tmp 98), 0, _, _, some (17, true)⟩) (v := undef) rfl (by kernel_rfl) (by kernel_rfl) (by kernel_rfl) (fun _ _ _ h => h) (Or.inr ⟨by kernel_rfl, rfl⟩) (by assumption) ?_
          (try simp only [Act.put, List.setIfInBounds_toArray, List.set_cons_zero, List.set_cons_succ])
          refine wpAnyH_take (i := 27) (oi := ⟨some 100, Op.fieldAddr 29 (Operand.tmp 99) 2, 0, _, _, some (17, true)⟩) (v := undef) rfl (by kernel_rfl) (by kernel_rfl) (by kernel_rfl) (fun _ _ _ h => h) (Or.inr ⟨by kernel_rfl, rfl⟩) (by assumption) ?_
          (try simp only [Act.put, List.setIfInBounds_toArray, List.set_cons_zero, List.set_cons_succ])
          refine wpAnyH_take (i := 28) (oi := ⟨some 101, Op.load 3 (Operand.tmp 100), 3, _, _, some (17, true)⟩) (v := undef) rfl (by kernel_rfl) (by kernel_rfl) (by kernel_rfl) (fun _ _ _ h => h) (Or.inr ⟨by kernel_rfl, rfl⟩) (by assumption) ?_
          (try simp only [Act.put, List.setIfInBounds_toArray, List.set_cons_zero, List.set_cons_succ])
          refine wpAnyH_take (i := 29) (oi := ⟨some 102, Op.move (Operand.tmp 3), 22, _, _, some (17, true)⟩) (v := undef) rfl (by kernel_rfl) (by kernel_rfl) (by kernel_rfl) (fun _ _ _ h => h) (Or.inr ⟨by kernel_rfl, rfl⟩) (by assumption) ?_
          (try simp only [Act.put, List.setIfInBounds_toArray, List.set_cons_zero, List.set_cons_succ])
          refine wpAnyH_take (i := 30) (oi := ⟨some 103, Op.move (Operand.tmp 11), 3, _, _, some (17, true)⟩) (v := undef) rfl (by kernel_rfl) (by kernel_rfl) (by kernel_rfl) (fun _ _ _ h => h) (Or.inr ⟨by kernel_rfl, rfl⟩) (by assumption) ?_
          (try simp only [Act.put, List.setIfInBounds_toArray, List.set_cons_zero, List.set_cons_succ])
          refine wpAnyH_take (i := 31) (oi := ⟨some 104, Op.indexAddr 22 (Operand.tmp 102) (Operand.tmp 103), 0, _, _, some (17, true)⟩) (v := undef) rfl (by kernel_rfl) (by kernel_rfl) (by kernel_rfl) (fun _ _ _ h => h) (Or.inr ⟨by kernel_rfl, rfl⟩) (by assumption) ?_
          (try simp only [Act.put, List.setIfInBounds_toArray, List.set_cons_zero, List.set_cons_succ])
          refine wpAnyH_take (i := 32) (oi := ⟨some 105, Op.fieldAddr 29 (Operand.tmp 104) 3, 0, _, _, some (17, true)⟩) (v := undef) rfl (by kernel_rfl) (by kernel_rfl) (by kernel_rfl) (fun _ _ _ h => h) (Or.inr ⟨by kernel_rfl, rfl⟩) (by assumption) ?_
          (try simp only [Act.put, List.setIfInBounds_toArray, List.set_cons_zero, List.set_cons_succ])
          refine wpAnyH_take (i := 33) (oi := ⟨some 106, Op.load 3 (Operand.tmp 105), 3, _, _, some (17, true)⟩) (v := undef) rfl (by kernel_rfl) (by kernel_rfl) (by kernel_rfl) (fun _ _ _ h => h) (Or.inr ⟨by kernel_rfl, rfl⟩) (by assumption) ?_
          (try simp only [Act.put, List.setIfInBounds_toArray, List.set_cons_zero, List.set_cons_succ])
          refine wpAnyH_take (i := 34) (oi := ⟨some 107, Op.call { callee := Callee.value (Operand.func 13), args := #[Operand.tmp 91, Operand.tmp 96, Operand.tmp 101, Operand.tmp 106], argTypes := #[25, 9, 3, 3] }, 4, _, _, some (17, true)⟩) (v := undef) rfl (by kernel_rfl) (by kernel_rfl) (by kernel_rfl) (fun _ _ _ h => h) (Or.inr ⟨by kernel_rfl, rfl⟩) (by assumption) ?_
          (try simp only [Act.put, List.setIfInBounds_toArray, List.set_cons_zero, List.set_cons_succ])
          refine wpAnyH_take (i := 35) (oi := ⟨some 108, Op.unOp UnOp.not 4 (Operand.tmp 107), 4, _, _, some (17, true)⟩) (v := undef) rfl (by kernel_rfl) (by kernel_rfl) (by kernel_rfl) (fun _ _ _ h => h) (Or.inr ⟨by kernel_rfl, rfl⟩) (by assumption) ?_
          (try simp only [Act.put, List.setIfInBounds_toArray, List.set_cons_zero, List.set_cons_succ])
          refine wpAnyH_take (i := 36) (oi := ⟨some 109, Op.pick (Operand.tmp 90) (Operand.tmp 108) (Operand.const (Value.bool false)), 4, _, _, none⟩) (v := ?_) rfl (by kernel_rfl) (by kernel_rfl) (by kernel_rfl) (fun _ _ _ h => h) (Or.inl ⟨by rfl, ?_⟩) (by assumption) ?_
          rotate_left
          · intro w hSw
            (try dsimp only at hSw)
            go_simp
            (try with_reducible rfl)
          (try simp only [Act.put, List.setIfInBounds_toArray, List.set_cons_zero, List.set_cons_succ])
          refine wpAnyH_done (by kernel_rfl) ?_ _
          have HP5 := Lib.hid hp5
          have HB5 : Hid (Below B0 w w5) := Lib.hid (HB.out.trans (Below.trans (Below.drew (Below.refl B0 wr)) hb5))
          have hsz5 : B0 ≤ w5.heap.size := by have := HB5.out.size; omega
          clear hp5 hb5 c0 c1 c2 c3
          go_wp2_with fail
          refine (now_any HP5.out.mc).mono ?_
          rintro e w6 ⟨rfl, rfl⟩
          go_wp2_with fail
          refine (now_any HP5.out.md).mono ?_
          rintro e w6 ⟨rfl, rfl⟩
          by_cases hnw : a'.now = b.now
          · have z0 : (a'.now != b.now) = false := by simpa using hnw
            obtain ⟨b', hb'⟩ : ∃ b', b = b' := ⟨_, rfl⟩
            have HR : Hid (SlackR a' b' mo) := Lib.hid (by rw [← hb', HA'.out]; exact HR0.out.stay t (by rw [← HA'.out]; exact hnw))
            have HP : Hid (Pair w6 B0 c B d D a' b') := Lib.hid (by rw [← hb']; exact HP5.out)
            clear hnw hb'
            go_wp2_with fail
            refine (mark_any HP.out.md).mono ?_
            rintro e w6 ⟨rfl, rfl⟩
            go_wp2_with fail
            refine (mark_any HP.out.mc).mono ?_
            rintro e w6 ⟨rfl, rfl⟩
            have z1 : decide (a'.mark < b'.mark) = false := by have := HR.out.mark; simp; omega
            go_wp2_with fail
            refine ⟨⟨i + 1, a', b', by omega, by simp, HR, HLE', HP, HB5⟩, ?_⟩
            simp only [intOf]
            omega
          · have z0 : (a'.now != b.now) = true := by simpa using hnw
            obtain ⟨b', hb'⟩ : ∃ b', tickC b a'.now = b' := ⟨_, rfl⟩
            have HR : Hid (SlackR a' b' mo) := Lib.hid (by rw [← hb', HA'.out]; exact HR0.out.late hm0 HP0.out.mc.ok t)
            have HB' := Lib.hid hb'
            clear hnw hb'
            go_wp2_with fail
            refine (now_any HP5.out.mc).mono ?_
            rintro e w7 ⟨rfl, rfl⟩
            go_wp2_with fail
            refine (HP5.out.tickD hsz5 a'.now b' HB'.out).mono ?_
            rintro e w8 ⟨rfl, hp8, hb8⟩
            have HP := Lib.hid hp8
            have HB5o := HB5
            clear HB5
            have HB5 : Hid (Below B0 w w8) := Lib.hid (HB5o.out.trans hb8)
            clear hp8 hb8
            go_wp2_with fail
            refine (mark_any HP.out.md).mono ?_
            rintro e w6 ⟨rfl, rfl⟩
            go_wp2_with fail
            refine (mark_any HP.out.mc).mono ?_
            rintro e w6 ⟨rfl, rfl⟩
            have z1 : decide (a'.mark < b'.mark) = false := by have := HR.out.mark; simp; omega
            go_wp2_with fail
            refine ⟨⟨i + 1, a', b', by omega, by simp, HR, HLE', HP, HB5⟩, ?_⟩
            simp only [intOf]
            omega
    · obtain rfl : i = N := by omega
      go_wp2_with fail
      go_ret
      exact ⟨rfl, HB.out⟩
set_option maxRecDepth 100000 in
theorem law_slack (sl mo id : Int) (v : Value) (l : List Ac) (w : World) (hv : Acs w w.heap.size v l) :
    Calls Try.prog 5 #[.int .i64 sl, .int .i64 mo, .int .i64 id, v] w fun e w' => e = .returned (.bool true) ∧ Below w.heap.size w w' := by
  by_cases h : fewL l = true ∧ 0 ≤ sl ∧ sl ≤ 1073741824 ∧ 0 ≤ mo ∧ mo ≤ 1073741824
  · exact slack_few sl mo id v l w hv h.1 h.2
  · have haw := Lib.hid (awake_any w)
    obtain ⟨f, hf⟩ : ∃ f, fewL l = f := ⟨_, rfl⟩
    have HFEW : Hid (∀ wx, Below w.heap.size w wx → Calls Try.prog 8 #[v] wx fun e w' => e = .returned (.bool f) ∧ w' = wx) := Lib.hid (fun wx hb => by
      have := few_any v l w.heap.size wx (hv.below hb)
      rwa [hf] at this)
    rw [hf] at h
    clear hf hv
    cases f with
    | false =>
      clear h
      go_enter Try.func5, Try.ntmps5
      go_wp2_with fail
      refine (haw.out).mono ?_
      rintro e w1 ⟨rfl, hb1⟩
      have HB1 := Lib.hid hb1
      clear hb1 haw
      go_wp2_with fail
      refine (HFEW.out w1 HB1.out).mono ?_
      rintro e w2 ⟨rfl, rfl⟩
      go_wp2_with fail
      go_ret
      exact ⟨rfl, HB1.out⟩
    | true =>
      simp only [true_and] at h
      have hh := Lib.hid h
      clear h
      by_cases h1 : sl < 0
      · have g1 : decide (sl < 0) = true := by simpa using h1
        clear hh
        go_enter Try.func5, Try.ntmps5
        go_wp2_with fail
        refine (haw.out).mono ?_
        rintro e w1 ⟨rfl, hb1⟩
        have HB1 := Lib.hid hb1
        clear hb1 haw
        go_wp2_with fail
        refine (HFEW.out w1 HB1.out).mono ?_
        rintro e w2 ⟨rfl, rfl⟩
        go_wp2_with fail
        go_ret
        exact ⟨rfl, HB1.out⟩
      · have g1 : decide (sl < 0) = false := by simpa using h1
        by_cases h2 : 1073741824 < sl
        · have g2 : decide (1073741824 < sl) = true := by simpa using h2
          clear hh
          go_enter Try.func5, Try.ntmps5
          go_wp2_with fail
          refine (haw.out).mono ?_
          rintro e w1 ⟨rfl, hb1⟩
          have HB1 := Lib.hid hb1
          clear hb1 haw
          go_wp2_with fail
          refine (HFEW.out w1 HB1.out).mono ?_
          rintro e w2 ⟨rfl, rfl⟩
          go_wp2_with fail
          go_ret
          exact ⟨rfl, HB1.out⟩
        · have g2 : decide (1073741824 < sl) = false := by simpa using h2
          by_cases h3 : mo < 0
          · have g3 : decide (mo < 0) = true := by simpa using h3
            clear hh
            go_enter Try.func5, Try.ntmps5
            go_wp2_with fail
            refine (haw.out).mono ?_
            rintro e w1 ⟨rfl, hb1⟩
            have HB1 := Lib.hid hb1
            clear hb1 haw
            go_wp2_with fail
            refine (HFEW.out w1 HB1.out).mono ?_
            rintro e w2 ⟨rfl, rfl⟩
            go_wp2_with fail
            go_ret
            exact ⟨rfl, HB1.out⟩
          · have g3 : decide (mo < 0) = false := by simpa using h3
            have g4 : decide (1073741824 < mo) = true := by have := hh.out; simp; omega
            clear hh
            go_enter Try.func5, Try.ntmps5
            go_wp2_with fail
            refine (haw.out).mono ?_
            rintro e w1 ⟨rfl, hb1⟩
            have HB1 := Lib.hid hb1
            clear hb1 haw
            go_wp2_with fail
            refine (HFEW.out w1 HB1.out).mono ?_
            rintro e w2 ⟨rfl, rfl⟩
            go_wp2_with fail
            go_ret
            exact ⟨rfl, HB1.out⟩
end Go.Proofs.Ytmoooeadiminbaa
