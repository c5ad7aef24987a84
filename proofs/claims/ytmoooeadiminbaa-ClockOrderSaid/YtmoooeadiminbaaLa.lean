/- Neither the mark nor now ever falls: the law. -/
import Derived.Test.YtmoooeadiminbaaV
import Derived.BigRegion
import Derived.Deep.RegionHeld3
namespace Go.Proofs.Ytmoooeadiminbaa
open Go.RowKit Go.Maps
set_option linter.unusedVariables false
/-- No source is farther than this; the mark is below it. -/
structure Most (k : Ck) (m : Int) : Prop where
  far : ∀ s ∈ k.L, s.far ≤ m
  mark : 0 ≤ k.mark → k.mark < m
theorem told_most {k : Ck} {m : Int} (h : OkC k) (hm : Most k m) : told k = -1 ∨ told k < m := by
  rcases told_cases k with ⟨e, _⟩ | ⟨s, h1, _, e, _⟩
  · exact .inl e
  · have := hm.far s h1
    have := h.slack
    right; omega
theorem Most.fol {k : Ck} {m : Int} (h : OkC k) (hm : Most k m) : Most (folC k) m :=
  ⟨hm.far, fun h0 => by
    have h1 := told_most h hm
    have h2 := hm.mark
    have h3 := h.mark
    change 0 ≤ max k.mark (told k) at h0
    show max k.mark (told k) < m
    omega⟩
theorem Most.tick {k : Ck} {m : Int} (h : OkC k) (hm : Most k m) (n : Int) : Most (tickC k n) m := Most.fol (h.time n) ⟨hm.far, hm.mark⟩
theorem mark_fol (k : Ck) : k.mark ≤ (folC k).mark := by show k.mark ≤ max k.mark (told k); omega
theorem mark_tick (k : Ck) (n : Int) : k.mark ≤ (tickC k n).mark := mark_fol (timeC k n)
theorem now_tick (k : Ck) (n : Int) : k.now ≤ (tickC k n).now := by show k.now ≤ max k.now (near n); omega
theorem mark_hear (k : Ck) (n : List UInt8) (a t : Int) : k.mark ≤ (hearC k n a t).mark := by
  unfold hearC
  split
  · exact Int.le_trans (mark_tick k t) (mark_fol (putC (tickC k t) n a))
  · exact mark_tick k t
theorem now_hear (k : Ck) (n : List UInt8) (a t : Int) : k.now ≤ (hearC k n a t).now := by
  unfold hearC
  split
  · exact now_tick k t
  · exact now_tick k t
theorem hear_above {k : Ck} {n : List UInt8} {a t : Int} (h : hearB k n a t = true) : k.mark < a := by
  have := (hearOk_iff.1 h).2.2
  have := mark_tick k t
  omega
theorem Most.put {k : Ck} {m : Int} (h : OkC k) (hm : Most k m) (n : List UInt8) {a : Int} (ha : 0 ≤ a) : Most (putC k n a) (max m a) :=
  ⟨fun s hs => by
    rcases (mem_insK h.sorted).1 hs with rfl | ⟨h1, _⟩
    · show max a (heardC k n) ≤ max m a
      unfold heardC
      cases hg : getK Sr.name n k.L with
      | none => simp only; omega
      | some e =>
        have := hm.far e (getK_some hg).1
        simp only; omega
    · have := hm.far s h1
      omega, fun h0 => by
    have := hm.mark h0
    show k.mark < _
    omega⟩
theorem Most.hear {k : Ck} {m : Int} (h : OkC k) (hm : Most k m) (n : List UInt8) (a t : Int) : Most (hearC k n a t) (if hearB k n a t = true then max m a else m) := by
  unfold hearC
  cases hb : hearB k n a t with
  | true =>
    obtain ⟨h1, h2, _⟩ := hearOk_iff.1 hb
    simp only [if_true]
    exact Most.fol ((h.tick t).put h1 h2) (Most.put (h.tick t) (hm.tick h t) n (okTick_iff.1 h2).1)
  | false => simpa using hm.tick h t
theorem most_new (s i : Int) : Most (newC s i) (-1) := ⟨fun x hx => by simp [newC] at hx, fun h => by simp [newC] at h⟩
theorem hear_len' {k : Ck} {i : Nat} (h : k.L.length ≤ i) (n : List UInt8) (a t : Int) : (hearC k n a t).L.length ≤ i + 1 := by have := hear_len k n a t; omega
theorem tick_len {k : Ck} {i : Nat} (h : k.L.length ≤ i) (t : Int) : (tickC k t).L.length ≤ i + 1 := by show k.L.length ≤ _; omega
theorem time_at {B0 : Nat} {wx : World} {c B : Nat} {k : Ck} (h : ClkM wx (fun i => B0 ≤ i) c B k) (t : Int) (k' : Ck) (hs : B0 ≤ wx.heap.size) (e1 : tickC k t = k') :
    Calls Try.prog 12 #[.pointer (some ⟨c, 0, none⟩), .int .i64 t] wx fun e w' => e = .returned (.int .i64 k'.mark) ∧ ClkM w' (fun i => B0 ≤ i) c B k' ∧ Below B0 wx w' := by
  refine (time_any h t).mono ?_
  rintro e w' ⟨h1, h2, h3⟩
  rw [e1] at h1 h2
  exact ⟨h1, h2, kept_below h3 hs⟩
set_option maxHeartbeats 2000000 in
set_option maxRecDepth 100000 in
theorem rises_few (sl id : Int) (v : Value) (l : List Ac) (w : World) (hv : Acs w w.heap.size v l) (hf : fewL l = true) :
    Calls Try.prog 3 #[.int .i64 sl, .int .i64 id, v] w fun e w' => e = .returned (.bool true) ∧ Below w.heap.size w w' := by
  obtain ⟨q, cap, rfl, hcap, hmax, hq⟩ := hv.shape
  obtain ⟨B0, hB0⟩ : ∃ B0, w.heap.size = B0 := ⟨_, rfl⟩
  have haw := Lib.hid (awake_any w)
  rw [hB0] at hv haw ⊢
  have hlen := fewL_len hf
  have HFEW : Hid (∀ wx, Below B0 w wx → Calls Try.prog 8 #[.slice q l.length cap] wx fun e w' => e = .returned (.bool true) ∧ w' = wx) := Lib.hid (fun wx hb => by
    have := few_any _ l B0 wx (hv.below hb)
    rwa [hf] at this)
  obtain ⟨N, hN⟩ : ∃ N, l.length = N := ⟨_, rfl⟩
  rw [hN] at hv hlen HFEW ⊢
  have HV := Lib.hid hv
  have HFE := Lib.hid hf
  have HN := Lib.hid hN
  clear hv hf hN hq hcap
  go_enter Try.func3, Try.ntmps3
  go_wp2_with fail
  refine (haw.out).mono ?_
  rintro e w1 ⟨rfl, hb1⟩
  have hs1 : B0 ≤ w1.heap.size := by have := hb1.size; omega
  have HB1 := Lib.hid hb1
  clear hb1 haw
  go_wp2_with fail
  refine (HFEW.out w1 HB1.out).mono ?_
  rintro e w2 ⟨rfl, rfl⟩
  go_wp2_with fail
  refine (new_any sl id w2 (fun i => B0 ≤ i) (fun i hi => by omega)).mono ?_
  rintro e w3 ⟨c, B, rfl, -, hc3, hb3⟩
  have HC3 := Lib.hid hc3
  have HB3 := Lib.hid (HB1.out.trans (hb3.mono hs1))
  clear hc3 hb3 HFEW hs1
  go_wp2_with fail
  go_loopw [8, 9] (fun mv iv wr => ∃ (i : Nat) (k : Ck) (m : Int), i ≤ N ∧ mv = .int .i64 m ∧ iv = .int .i64 i ∧ Hid (Most k m) ∧ Hid (k.L.length ≤ i) ∧ Hid (ClkM wr (fun i => B0 ≤ i) c B k) ∧ Hid (Below B0 w wr)) (fun _ iv _ => N - (intOf iv).toNat)
  case atStart => exact ⟨0, _, -1, by omega, rfl, rfl, most_new sl id, by simp [newC, Hid], HC3.out, HB3.out⟩
  case round =>
    obtain ⟨i, k, m, hi, rfl, rfl, HM, HL, HC, HB⟩ := hrel
    by_cases hlt : i < N
    · have hil : i < l.length := by rw [HN.out]; exact hlt
      have hVr := Lib.hid (HV.out.below HB.out)
      obtain ⟨ad, rfl, hab, c0, c1, c2, c3⟩ := hVr.out.at i hil
      have hnm := fewL_at HFE.out hil
      obtain ⟨o, ho⟩ : ∃ o, l[i] = o := ⟨_, rfl⟩
      rw [ho] at c0 c1 c2 c3 hnm
      obtain ⟨kind, nm, a, t⟩ := o
      simp only at c0 c1 c2 c3 hnm
      have hsz : B0 ≤ wr.heap.size := by have := HB.out.size; omega
      have HIN : Hid (∀ wx, Below B0 wr wx → AcIn wx ad i ⟨kind, nm, a, t⟩) := Lib.hid (fun wx hb => by
        refine AcIn.below (B := B0) ?_ hb hab
        exact ⟨c0, c1, c2, c3⟩)
      have HTAIL : Hid (∀ k' : Ck, k.mark ≤ k'.mark → k.now ≤ k'.now → decide (k'.mark < k.mark) = false ∧ decide (k'.now < k.now) = false) := Lib.hid (fun k' h1 h2 => ⟨by simp; omega, by simp; omega⟩)
      obtain ⟨M, hM⟩ : ∃ M, k.mark = M := ⟨_, rfl⟩
      obtain ⟨W, hW⟩ : ∃ W, k.now = W := ⟨_, rfl⟩
      have hma := Lib.hid (mark_any HC.out)
      have hno := Lib.hid (now_any HC.out)
      rw [hM] at HTAIL hma
      rw [hW] at HTAIL hno
      clear ho hil hVr
      by_cases hk0 : kind = 0
      · have g0 : (kind == 0) = true := by simpa using hk0
        obtain ⟨k', hk'⟩ : ∃ k', tickC k t = k' := ⟨_, rfl⟩
        have HM' : Hid (Most k' m) := Lib.hid (by rw [← hk']; exact HM.out.tick HC.out.ok t)
        have HL' : Hid (k'.L.length ≤ i + 1) := Lib.hid (by rw [← hk']; exact tick_len HL.out t)
        have ht := HTAIL.out k' (by rw [← hk', ← hM]; exact mark_tick k t) (by rw [← hk', ← hW]; exact now_tick k t)
        have HTA := Lib.hid ht
        have HK' := Lib.hid hk'
        have HMM := Lib.hid hM
        have HWW := Lib.hid hW
        clear hk0 ht hk' hM hW
        go_wp2_with fail
        refine (hma.out).mono ?_
        rintro e w4 ⟨rfl, rfl⟩
        go_wp2_with fail
        refine (hno.out).mono ?_
        rintro e w4 ⟨rfl, rfl⟩
        go_wp2_with fail
        refine (time_at HC.out t k' hsz HK'.out).mono ?_
        rintro e w5 ⟨rfl, hc5, hb5⟩
        have HC5 := Lib.hid hc5
        have HB5 := Lib.hid (HB.out.trans hb5)
        clear hc5 hb5
        obtain ⟨t1, t2⟩ := HTA.out
        go_wp2_with fail
        refine (mark_any HC5.out).mono ?_
        rintro e w6 ⟨rfl, rfl⟩
        go_wp2_with fail
        refine (mark_any HC5.out).mono ?_
        rintro e w6 ⟨rfl, rfl⟩
        go_wp2_with fail
        refine (now_any HC5.out).mono ?_
        rintro e w6 ⟨rfl, rfl⟩
        go_wp2_with fail
        refine (mark_any HC5.out).mono ?_
        rintro e w6 ⟨rfl, rfl⟩
        by_cases hp : 0 ≤ k'.mark
        · have p1 : decide (0 ≤ k'.mark) = true := by simpa using hp
          have p2 : decide (m ≤ k'.mark) = false := by have := HM'.out.mark hp; simp; omega
          clear hp
          go_wp2_with fail
          refine (mark_any HC5.out).mono ?_
          rintro e w6 ⟨rfl, rfl⟩
          go_wp2_with fail
          refine ⟨⟨i + 1, k', m, by omega, rfl, by simp, HM', HL', HC5, HB5⟩, ?_⟩
          simp only [intOf]
          omega
        · have p1 : decide (0 ≤ k'.mark) = false := by simpa using hp
          clear hp
          go_wp2_with fail
          refine ⟨⟨i + 1, k', m, by omega, rfl, by simp, HM', HL', HC5, HB5⟩, ?_⟩
          simp only [intOf]
          omega
      · have g0 : (kind == 0) = false := by simpa using hk0
        obtain ⟨k', hk'⟩ : ∃ k', hearC k nm a t = k' := ⟨_, rfl⟩
        obtain ⟨r, hr⟩ : ∃ r, hearB k nm a t = r := ⟨_, rfl⟩
        have HM' : Hid (Most k' (if r = true then max m a else m)) := Lib.hid (by rw [← hk', ← hr]; exact HM.out.hear HC.out.ok nm a t)
        have HL' : Hid (k'.L.length ≤ i + 1) := Lib.hid (by rw [← hk']; exact hear_len' HL.out nm a t)
        have ht := HTAIL.out k' (by rw [← hk', ← hM]; exact mark_hear k nm a t) (by rw [← hk', ← hW]; exact now_hear k nm a t)
        have HTA := Lib.hid ht
        have HAB : Hid (r = true → M < a) := Lib.hid (fun e => by rw [← hM]; exact hear_above (hr.trans e))
        have HLE : Hid (k.L.length ≤ 1000000) := Lib.hid (by have := HL.out; omega)
        have HHE : Hid (∀ wx, ClkM wx (fun i => B0 ≤ i) c B k → B0 ≤ wx.heap.size → Calls Try.prog 13 #[.pointer (some ⟨c, 0, none⟩), .string (bs nm), .int .i64 a, .int .i64 t] wx fun e w' => e = .returned (.bool r) ∧ ClkM w' (fun i => B0 ≤ i) c B k' ∧ Below B0 wx w') := Lib.hid (fun wx hx hs => hear_at hx nm a t k' r hs (by omega) HLE.out hk' hr)
        clear hk0 ht hk' hM hW hr
        go_wp2_with fail
        refine (hma.out).mono ?_
        rintro e w4 ⟨rfl, rfl⟩
        go_wp2_with fail
        refine (hno.out).mono ?_
        rintro e w4 ⟨rfl, rfl⟩
        go_wp2_with fail
        go_region_held3 (fun w' => w'.cell? ⟨(ad.add (i * 4)).block, (ad.add (i * 4)).off + 1, none⟩ = some (.string (bs nm)) ∧ w'.cell? ⟨(ad.add (i * 4)).block, (ad.add (i * 4)).off + 2, none⟩ = some (.int .i64 a) ∧ w'.cell? ⟨(ad.add (i * 4)).block, (ad.add (i * 4)).off + 3, none⟩ = some (.int .i64 t)) (go_keep)
          (first | (go_at_call 13; refine (HHE.out _ HC.out.drew hsz).mono ?_; rintro e w5 ⟨rfl, hc5, hb5⟩; obtain ⟨d0, d1, d2, d3⟩ := HIN.out w5 (Below.trans (Below.drew (Below.refl B0 w4)) hb5)))
        have HC5 := Lib.hid hc5
        have HB5 : Hid (Below B0 w w5) := Lib.hid (HB.out.drew.trans hb5)
        obtain ⟨t1, t2⟩ := HTA.out
        clear hc5 hb5 HIN c0 c1 c2 c3 d0 d1 d3
        cases r with
        | true =>
          rw [if_pos rfl] at HM'
          have g1 : decide (a ≤ M) = false := by have := HAB.out rfl; simp; omega
          go_wp2_with fail
          refine (mark_any HC5.out).mono ?_
          rintro e w6 ⟨rfl, rfl⟩
          go_wp2_with fail
          refine (now_any HC5.out).mono ?_
          rintro e w6 ⟨rfl, rfl⟩
          go_wp2_with fail
          refine (mark_any HC5.out).mono ?_
          rintro e w6 ⟨rfl, rfl⟩
          by_cases hp : 0 ≤ k'.mark
          · have p1 : decide (0 ≤ k'.mark) = true := by simpa using hp
            have p2 : decide (max m a ≤ k'.mark) = false := by have := HM'.out.mark hp; simp; omega
            clear hp
            go_wp2_with fail
            refine (mark_any HC5.out).mono ?_
            rintro e w6 ⟨rfl, rfl⟩
            go_wp2_with fail
            refine ⟨⟨i + 1, k', max m a, by omega, rfl, by simp, HM', HL', HC5, HB5⟩, ?_⟩
            simp only [intOf]
            omega
          · have p1 : decide (0 ≤ k'.mark) = false := by simpa using hp
            clear hp
            go_wp2_with fail
            refine ⟨⟨i + 1, k', max m a, by omega, rfl, by simp, HM', HL', HC5, HB5⟩, ?_⟩
            simp only [intOf]
            omega
        | false =>
          rw [if_neg (by simp)] at HM'
          go_wp2_with fail
          refine (mark_any HC5.out).mono ?_
          rintro e w6 ⟨rfl, rfl⟩
          go_wp2_with fail
          refine (now_any HC5.out).mono ?_
          rintro e w6 ⟨rfl, rfl⟩
          go_wp2_with fail
          refine (mark_any HC5.out).mono ?_
          rintro e w6 ⟨rfl, rfl⟩
          by_cases hp : 0 ≤ k'.mark
          · have p1 : decide (0 ≤ k'.mark) = true := by simpa using hp
            have p2 : decide (m ≤ k'.mark) = false := by have := HM'.out.mark hp; simp; omega
            clear hp
            go_wp2_with fail
            refine (mark_any HC5.out).mono ?_
            rintro e w6 ⟨rfl, rfl⟩
            go_wp2_with fail
            refine ⟨⟨i + 1, k', m, by omega, rfl, by simp, HM', HL', HC5, HB5⟩, ?_⟩
            simp only [intOf]
            omega
          · have p1 : decide (0 ≤ k'.mark) = false := by simpa using hp
            clear hp
            go_wp2_with fail
            refine ⟨⟨i + 1, k', m, by omega, rfl, by simp, HM', HL', HC5, HB5⟩, ?_⟩
            simp only [intOf]
            omega
    · obtain rfl : i = N := by omega
      go_wp2_with fail
      go_ret
      exact ⟨rfl, HB.out⟩
set_option maxRecDepth 100000 in
theorem law_rises (sl id : Int) (v : Value) (l : List Ac) (w : World) (hv : Acs w w.heap.size v l) :
    Calls Try.prog 3 #[.int .i64 sl, .int .i64 id, v] w fun e w' => e = .returned (.bool true) ∧ Below w.heap.size w w' := by
  cases hf : fewL l with
  | true => exact rises_few sl id v l w hv hf
  | false =>
    have haw := Lib.hid (awake_any w)
    have HFEW : Hid (∀ wx, Below w.heap.size w wx → Calls Try.prog 8 #[v] wx fun e w' => e = .returned (.bool false) ∧ w' = wx) := Lib.hid (fun wx hb => by
      have := few_any v l w.heap.size wx (hv.below hb)
      rwa [hf] at this)
    clear hf
    go_enter Try.func3, Try.ntmps3
    go_wp2_with fail
    refine (haw.out).mono ?_
    rintro e w1 ⟨rfl, hb1⟩
    have HB1 := Lib.hid hb1
    clear hb1 haw
    go_wp2_with fail
    refine (HFEW.out w1 HB1.out).mono ?_
    rintro e w2 ⟨rfl, rfl⟩
    go_wp2_with fail
    go_ret
    exact ⟨rfl, HB1.out⟩
end Go.Proofs.Ytmoooeadiminbaa
