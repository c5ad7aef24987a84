/- The order in which things are heard plays no part: the law. -/
import Derived.Test.YtmoooeadiminbaaLd
import Derived.BigRegion
import Derived.Deep.RegionHeld3
namespace Go.Proofs.Ytmoooeadiminbaa
open Go.RowKit Go.Maps
set_option linter.unusedVariables false
theorem AcRow.keptF {w w' : World} {base : Nat} {u : Value} {l : List Ac} {G : Nat → Prop} (h : AcRow w base u l) (hk : Kept G w w') (hG : ∀ g, base ≤ g → ¬ G g) : AcRow w' base u l := by
  obtain ⟨h1, h2⟩ := h
  refine ⟨h1, ?_⟩
  rcases h2 with h2 | ⟨g, cap, cur, e, hg, hh, r⟩
  · exact .inl h2
  · exact .inr ⟨g, cap, cur, e, hg, by rw [hk.block g (lt_of_block hh) (hG g hg)]; exact hh, r⟩
/-- Two clocks, and a row of acts behind them. -/
structure Trio (w : World) (B0 B1 : Nat) (c B d D : Nat) (a b : Ck) (v : Value) (L : List Ac) : Prop where
  pair : Pair w B0 c B d D a b
  row : AcRow w B1 v L
  hi : c < B1 ∧ B < B1 ∧ d < B1 ∧ D < B1
section
variable {w : World} {B0 B1 c B d D : Nat} {a b : Ck} {v : Value} {L : List Ac}
theorem Trio.drew (h : Trio w B0 B1 c B d D a b v L) : Trio w.drew B0 B1 c B d D a b v L := ⟨h.pair.drew, h.row, h.hi⟩
theorem Trio.hearC (h : Trio w B0 B1 c B d D a b v L) (hB : B0 ≤ w.heap.size) (n : List UInt8) (x t : Int) (a' : Ck) (r : Bool) (hn : n.length ≤ 1000000) (hL : a.L.length ≤ 1000000) (e1 : hearC a n x t = a') (e2 : hearB a n x t = r) :
    Calls Try.prog 13 #[.pointer (some ⟨c, 0, none⟩), .string (bs n), .int .i64 x, .int .i64 t] w fun e w' => e = .returned (.bool r) ∧ Trio w' B0 B1 c B d D a' b v L ∧ Below B0 w w' := by
  refine (hear_any h.pair.mc n x t hn hL).mono ?_
  rintro e w' ⟨h1, h2, h3⟩
  rw [e1] at h2
  obtain ⟨h4, h5⟩ := h.pair.turnC h2 h3 hB
  exact ⟨by rw [h1, e2], ⟨h4, h.row.keptF h3 (fun g hg hx => by have := h.hi; rcases hx with hx | hx <;> omega), h.hi⟩, h5⟩
theorem Trio.hearD (h : Trio w B0 B1 c B d D a b v L) (hB : B0 ≤ w.heap.size) (n : List UInt8) (x t : Int) (b' : Ck) (r : Bool) (hn : n.length ≤ 1000000) (hL : b.L.length ≤ 1000000) (e1 : Go.Proofs.Ytmoooeadiminbaa.hearC b n x t = b') (e2 : hearB b n x t = r) :
    Calls Try.prog 13 #[.pointer (some ⟨d, 0, none⟩), .string (bs n), .int .i64 x, .int .i64 t] w fun e w' => e = .returned (.bool r) ∧ Trio w' B0 B1 c B d D a b' v L ∧ Below B0 w w' := by
  refine (hear_any h.pair.md n x t hn hL).mono ?_
  rintro e w' ⟨h1, h2, h3⟩
  rw [e1] at h2
  obtain ⟨h4, h5⟩ := h.pair.turnD h2 h3 hB
  exact ⟨by rw [h1, e2], ⟨h4, h.row.keptF h3 (fun g hg hx => by have := h.hi; rcases hx with hx | hx <;> omega), h.hi⟩, h5⟩
theorem Pair.below {w' : World} (h : Pair w B0 c B d D a b) (hb : Below w.heap.size w w') : Pair w' B0 c B d D a b := ⟨h.mc.below hb, h.md.below hb, h.apart, h.lo⟩
end
theorem hearL_len (k : Ck) : ∀ l : List Ac, (hearL k l).L.length ≤ k.L.length + l.length
  | [] => by show k.L.length ≤ _; omega
  | o :: r => by
    have h1 := hearL_len (hearC k o.name o.far 0) r
    have h2 := hear_len k o.name o.far 0
    show (hearL (hearC k o.name o.far 0) r).L.length ≤ _
    simp only [List.length_cons]
    omega
theorem new_len (s : Int) (l : List Ac) : (hearL (newC s 0) l).L.length ≤ l.length := by
  have := hearL_len (newC s 0) l
  simpa [newC] using this
theorem turn_perm (l : List Ac) (T : Nat) : l.Perm (l.drop T ++ l.take T) := by
  have h : (l.take T ++ l.drop T).Perm (l.drop T ++ l.take T) := List.perm_append_comm
  rwa [List.take_append_drop] at h
theorem turn_len {l : List Ac} {T : Nat} (hT : T ≤ l.length) : (l.drop T ++ l.take T).length = l.length := by
  rw [List.length_append, List.length_drop, List.length_take]; omega
theorem turn_few {l : List Ac} {T : Nat} (hf : fewL l = true) {i : Nat} (hi : i < (l.drop T ++ l.take T).length) : (l.drop T ++ l.take T)[i].name.length ≤ 100 := by
  have hm : (l.drop T ++ l.take T)[i] ∈ l := (turn_perm l T).mem_iff.2 (List.getElem_mem hi)
  obtain ⟨j, hj, e⟩ := List.mem_iff_getElem.1 hm
  rw [← e]
  exact fewL_at hf hj
theorem own_blk4 {w : World} {base : Nat} {v : Value} {l : List Ac} (h : AcRow w base v l) : ∀ k, v.ownBlock = some k → base ≤ k := by
  intro k hk
  rcases h.2 with ⟨rfl, _⟩ | ⟨g, cap, cur, rfl, hg, r⟩
  · cases hk
  · cases hk; exact hg
theorem own_base9 {w : World} {base : Nat} {u : Value} {ps : List (List UInt8)} (h : Txts w base u ps) : Txts w 0 u ps := by
  obtain ⟨h1, h2⟩ := h
  refine ⟨h1, ?_⟩
  rcases h2 with h2 | ⟨g, cap, cur, hv, hg, r⟩
  · exact .inl h2
  · exact .inr ⟨g, cap, cur, hv, Nat.zero_le _, r⟩
set_option maxHeartbeats 4000000 in
set_option maxRecDepth 100000 in
theorem order_some (sl : Int) (ad : Addr) (cap : Nat) (l : List Ac) (T : Nat) (w : World) (hv : Acs w w.heap.size (.slice (some ad) l.length cap) l) (hf : fewL l = true) (hT : T ≤ l.length) (hcap : l.length ≤ cap) (hmax : cap ≤ 9223372036854775807) :
    Calls Try.prog 4 #[.int .i64 sl, .slice (some ad) l.length cap, .int .i64 T] w fun e w' => e = .returned (.bool true) ∧ Below w.heap.size w w' := by
  obtain ⟨q, hq⟩ : ∃ q, q = some ad := ⟨_, rfl⟩
  rw [← hq] at hv ⊢
  obtain ⟨B0, hB0⟩ : ∃ B0, w.heap.size = B0 := ⟨_, rfl⟩
  have haw := Lib.hid (awake_any w)
  rw [hB0] at hv haw ⊢
  have hlen := fewL_len hf
  have HFEW : Hid (∀ wx, Below B0 w wx → Calls Try.prog 8 #[.slice q l.length cap] wx fun e w' => e = .returned (.bool true) ∧ w' = wx) := Lib.hid (fun wx hb => by
    have := few_any _ l B0 wx (hv.below hb)
    rwa [hf] at this)
  obtain ⟨N, hN⟩ : ∃ N, l.length = N := ⟨_, rfl⟩
  rw [hN] at hv hlen HFEW hT hcap ⊢
  have HV := Lib.hid hv
  have HFE := Lib.hid hf
  have HN := Lib.hid hN
  have g1 : decide ((T : Int) < 0) = false := by simp
  have g2 : decide ((N : Int) < (T : Int)) = false := by simp; omega
  subst hq
  clear hv hf hN
  go_enter Try.func4, Try.ntmps4
  go_wp2_with fail
  refine (haw.out).mono ?_
  rintro e w1 ⟨rfl, hb1⟩
  have hs1 : B0 ≤ w1.heap.size := by have := hb1.size; omega
  have HB1 := Lib.hid hb1
  clear hb1 haw
  go_wp2_with fail
  refine (HFEW.out w1 HB1.out).mono ?_
  rintro e w2 ⟨rfl, rfl⟩
  go_wp2_with fail
  refine (new_any sl 0 w2 (fun i => B0 ≤ i) (fun i hi => by omega)).mono ?_
  rintro e w3 ⟨c, B, rfl, -, hc3, hb3⟩
  have HC3 := Lib.hid hc3
  have HB3 := Lib.hid (HB1.out.trans (hb3.mono hs1))
  clear hc3 hb3 HFEW hs1
  go_wp2_with fail
  refine (new_any sl 0 w3 (fun i => w3.heap.size ≤ i) (fun i hi => hi)).mono ?_
  rintro e w4 ⟨d, D, rfl, -, hd4, hb4⟩
  have HP4 : Hid (Pair w4 B0 c B d D (newC sl 0) (newC sl 0)) := Lib.hid (by
    have h1 := HC3.out.below hb4
    have h2 := HC3.out.self.lt
    have h3 := World.ownsMap.lt HC3.out.map
    have h4 : w3.heap.size ≤ d := hd4.fc
    have h5 : w3.heap.size ≤ D := hd4.fB
    have h6 := HB3.out.size
    refine ⟨h1.two, hd4.two, fun i hi hj => ?_, HC3.out.fc, HC3.out.fB, by omega, by omega⟩
    rcases hi with hi | hi <;> rcases hj with hj | hj <;> omega)
  have HI4 : Hid (c < w4.heap.size ∧ B < w4.heap.size ∧ d < w4.heap.size ∧ D < w4.heap.size) := Lib.hid (by
    have h2 := HC3.out.self.lt
    have h3 := World.ownsMap.lt HC3.out.map
    have h4 := hd4.self.lt
    have h5 := World.ownsMap.lt hd4.map
    have h6 := hb4.size
    omega)
  have HB4 : Hid (Below B0 w w4) := Lib.hid (HB3.out.trans (hb4.mono (by have := HB3.out.size; omega)))
  clear hd4 hb4
  have HLIT : Hid (∀ wx : World, wx.heap.size = w4.heap.size → AcRow (wx.alloc (.cells #[] 29)) w4.heap.size (.slice (some ⟨w4.heap.size, 0, none⟩) 0 0) []) := Lib.hid (fun wx hs => by
    refine ⟨rfl, .inr ⟨w4.heap.size, 0, #[], rfl, Nat.le_refl _, ?_, by simp, by unfold maxLen; omega, by simp, by simp [acsL]⟩⟩
    rw [← hs]
    exact heap_alloc_new wx (.cells #[] 29))
  have HLITD : Hid (AcRow (w4.alloc (.cells #[] 29)).drew w4.heap.size (.slice (some ⟨w4.heap.size, 0, none⟩) 0 0) []) := Lib.hid (HLIT.out w4 rfl)
  have hs4 : B0 ≤ w4.heap.size := by have := HB4.out.size; omega
  go_wp2_with fail
  obtain ⟨A1, hA1⟩ : ∃ A1, (if cap = T then some ad else some (ad.add (T * 4))) = some A1 := by
    by_cases h : cap = T
    · exact ⟨_, if_pos h⟩
    · exact ⟨_, if_neg h⟩
  have HA1 := Lib.hid hA1
  have HX1 : Hid (∀ wx, Below B0 w wx → Acs wx B0 (.slice (some A1) (N - T) (cap - T)) (l.drop T)) := Lib.hid (fun wx hb => by
    by_cases hcT : cap = T
    · have h0 : l.drop T = [] := List.drop_of_length_le (by rw [HN.out]; omega)
      rw [h0]
      exact .inr ⟨A1, cap - T, by rw [show N - T = 0 by omega]; rfl, by simp, by omega, fun h => by simp at h, fun j hj => by simp at hj⟩
    · have h1 := HA1.out
      rw [if_neg hcT] at h1
      obtain rfl := Option.some.inj h1
      have := (HV.out.below hb).drop T (by rw [HN.out]; exact hT)
      rwa [HN.out] at this)
  have HX2 : Hid (∀ wx, Below B0 w wx → Acs wx B0 (.slice (some ad) T cap) (l.take T)) := Lib.hid (fun wx hb => (HV.out.below hb).take T (by rw [HN.out]; exact hT))
  have HD1 : Hid ((l.drop T).length ≤ 101 ∧ (l.take T).length ≤ 101) := Lib.hid (by have := HN.out; rw [List.length_drop, List.length_take]; omega)
  have HBD' : Hid (Below w4.heap.size w4 (w4.alloc (.cells #[] 29)).drew) := Lib.hid (((Below.refl _ w4).alloc (Nat.le_refl _) _).drew)
  have HBD : Hid (Below B0 w (w4.alloc (.cells #[] 29)).drew) := Lib.hid (HB4.out.trans (HBD'.out.mono hs4))
  have HSD : Hid (w4.heap.size ≤ (w4.alloc (.cells #[] 29)).drew.heap.size) := Lib.hid HBD'.out.size
  have t1 : (0 : Int) ≤ (T : Int) := by omega
  have t2 : (T : Int) ≤ (N : Int) := by omega
  have t3 : (N : Int) ≤ (cap : Int) := by omega
  have t4 : (T : Int) ≤ (cap : Int) := by omega
  clear g1 g2
  go_region_held3 (fun _ => True) (trivial) (first | (refine step_append_acs rfl (.tmp 44) (.tmp 47) rfl w4.heap.size v5 ([] ++ l.drop T) rfl HR5.out B0 (.slice (some ad) T cap) (l.take T) rfl (HX2.out w5 HB5.out) (by have := HD1.out; simp only [List.nil_append]; omega) HS5.out ?_; intro v6 w6 hr6 hg6; have HR6 := Lib.hid hr6; have HB6 : Hid (Below w4.heap.size w4 w6) := Lib.hid (HB5'.out.grown hg6 HB5'.out.size (fun k hk => own_blk4 HR5.out k hk)); clear hr6 hg6) | (refine step_append_acs rfl (.tmp 40) (.tmp 43) rfl w4.heap.size (.slice (some ⟨w4.heap.size, 0, none⟩) 0 0) [] rfl HLITD.out B0 (.slice (some A1) (N - T) (cap - T)) (l.drop T) rfl (HX1.out _ HBD.out) (by have := HD1.out; simp only [List.length_nil]; omega) HSD.out ?_; intro v5 w5 hr5 hg5; have HR5 := Lib.hid hr5; have HB5' : Hid (Below w4.heap.size w4 w5) := Lib.hid (HBD'.out.grown hg5 HBD'.out.size (fun k hk => own_blk4 HLITD.out k hk)); have HB5 : Hid (Below B0 w w5) := Lib.hid (HB4.out.trans (HB5'.out.mono hs4)); have HS5 : Hid (w4.heap.size ≤ w5.heap.size) := Lib.hid HB5'.out.size; clear hr5 hg5) | fail)
  rw [List.nil_append] at HR6
  have hlen2 := turn_len (l := l) (T := T) (by rw [HN.out]; exact hT)
  rw [HN.out] at hlen2
  obtain ⟨q6, p6, rfl⟩ := HR6.out.form
  obtain ⟨L2, hL2⟩ : ∃ L2, l.drop T ++ l.take T = L2 := ⟨_, rfl⟩
  have HFE2 : Hid (∀ i (hi : i < L2.length), L2[i].name.length ≤ 100) := Lib.hid (by rw [← hL2]; exact fun i hi => turn_few HFE.out hi)
  have HPM : Hid (l.Perm L2) := Lib.hid (by rw [← hL2]; exact turn_perm l T)
  rw [hL2] at HR6 hlen2
  rw [hL2, hlen2]
  rw [hlen2] at HR6
  have HN2 := Lib.hid hlen2
  clear hL2 hlen2
  have HT6 : Hid (Trio w6 B0 w4.heap.size c B d D (newC sl 0) (newC sl 0) (.slice q6 N p6) L2) := Lib.hid ⟨HP4.out.below HB6.out, HR6.out, HI4.out⟩
  have HB6w : Hid (Below B0 w w6) := Lib.hid (HB4.out.trans (HB6.out.mono hs4))
  obtain ⟨B1, hB1⟩ : ∃ B1, w4.heap.size = B1 := ⟨_, rfl⟩
  rw [hB1] at HT6
  clear HR6 HB6 HP4 HI4 HX1 HX2 HLIT HBD HBD' HSD HB5 HB5' HS5 HR5
  go_wp2_with fail
  go_loopw [10] (fun iv wr => ∃ (i : Nat) (a : Ck), i ≤ N ∧ iv = .int .i64 i ∧ Hid (a = hearL (newC sl 0) (l.take i) ∧ okL (newC sl 0) (l.take i) = true) ∧ Hid (Trio wr B0 B1 c B d D a (newC sl 0) (.slice q6 N p6) L2) ∧ Hid (Below B0 w wr)) (fun iv _ => N - (intOf iv).toNat)
  case atStart => exact ⟨0, _, by omega, rfl, ⟨rfl, rfl⟩, HT6.out, HB6w.out⟩
  case round =>
    obtain ⟨i, a, hi, rfl, HA, HT, HB⟩ := hrel
    by_cases hlt : i < N
    · have hil : i < l.length := by rw [HN.out]; exact hlt
      have hVr := Lib.hid (HV.out.below HB.out)
      obtain ⟨ad5, ead, hab, c0, c1, c2, c3⟩ := hVr.out.at i hil
      obtain rfl : ad = ad5 := Option.some.inj ead
      have hnm := fewL_at HFE.out hil
      obtain ⟨o, ho⟩ : ∃ o, l[i] = o := ⟨_, rfl⟩
      rw [ho] at c0 c1 c2 c3 hnm
      have HSN : Hid (l.take (i + 1) = l.take i ++ [o]) := Lib.hid (by rw [List.take_succ_eq_append_getElem hil, ho])
      obtain ⟨kind, nm, x, t⟩ := o
      simp only at c0 c1 c2 c3 hnm
      have hsz : B0 ≤ wr.heap.size := by have := HB.out.size; omega
      have HIN : Hid (∀ wx, Below B0 wr wx → AcIn wx ad i ⟨kind, nm, x, t⟩) := Lib.hid (fun wx hb => by
        refine AcIn.below (B := B0) ?_ hb hab
        exact ⟨c0, c1, c2, c3⟩)
      obtain ⟨a', ha'⟩ : ∃ a', hearC a nm x 0 = a' := ⟨_, rfl⟩
      obtain ⟨r, hr⟩ : ∃ r, hearB a nm x 0 = r := ⟨_, rfl⟩
      have hLa : a.L.length ≤ 1000000 := by
        have := new_len sl (l.take i)
        rw [← HA.out.1, List.length_take] at this
        omega
      have HHE := Lib.hid (HT.out.drew.hearC hsz nm x 0 a' r (by omega) hLa ha' hr)
      have HA' : Hid (r = true → a' = hearL (newC sl 0) (l.take (i + 1)) ∧ okL (newC sl 0) (l.take (i + 1)) = true) := Lib.hid (fun e => by
        obtain ⟨h1, h2⟩ := HA.out
        rw [HSN.out, hearL_snoc, okL_snoc, ← h1, h2]
        exact ⟨ha'.symm, by simp [hr, e]⟩)
      clear ho hil hVr ha' hr hLa
      go_wp2_with fail
      go_region_held3 (fun w' => w'.cell? ⟨(ad.add (i * 4)).block, (ad.add (i * 4)).off + 1, none⟩ = some (.string (bs nm)) ∧ w'.cell? ⟨(ad.add (i * 4)).block, (ad.add (i * 4)).off + 2, none⟩ = some (.int .i64 x)) (go_keep) (first | (go_at_call 13; refine (HHE.out).mono ?_; rintro e w7 ⟨rfl, ht7, hb7⟩; have HT7 := Lib.hid ht7; have HB7' := Lib.hid (Below.trans (Below.drew (Below.refl B0 wr)) hb7); obtain ⟨d0, d1, d2, d3⟩ := HIN.out w7 HB7'.out; clear ht7 hb7) | fail)
      have HB7 : Hid (Below B0 w w7) := Lib.hid (HB.out.trans HB7'.out)
      clear c0 c1 c2 c3 d0 d1 d2 d3
      cases r with
      | true =>
        go_wp2_with fail
        refine ⟨⟨i + 1, by omega, by simp, a', HA'.out trivial, HT7⟩, ?_⟩
        simp only [intOf]
        omega
      | false =>
        go_wp2_with fail
        go_ret
        exact ⟨rfl, HB7.out⟩
    · obtain rfl : i = N := by omega
      have HAN : Hid (a = hearL (newC sl 0) l ∧ okL (newC sl 0) l = true) := Lib.hid (by
        have h := HA.out
        rw [List.take_of_length_le (by rw [HN.out]; exact Nat.le_refl _)] at h
        exact h)
      clear HT6 HB6w HA
      obtain ⟨wo, HWO⟩ : ∃ wo : World, wo = wr := ⟨_, rfl⟩
      subst HWO
      go_wp2_with fail
      go_loopw [11] (fun iv wr => ∃ (k : Nat) (b : Ck), k ≤ i ∧ iv = .int .i64 k ∧ Hid (b = hearL (newC sl 0) (L2.take k) ∧ okL (newC sl 0) (L2.take k) = true) ∧ Hid (Trio wr B0 B1 c B d D a b (.slice q6 i p6) L2) ∧ Hid (Below B0 w wr)) (fun iv _ => i - (intOf iv).toNat)
      case atStart => exact ⟨0, _, by omega, rfl, ⟨rfl, rfl⟩, HT.out, HB.out⟩
      case round =>
        obtain ⟨k, b, hk, rfl, HA, HT2, HB2⟩ := hrel
        by_cases hlt2 : k < i
        · have hil : k < L2.length := by rw [HN2.out]; exact hlt2
          obtain ⟨ad, rfl, hab, c0, c1, c2, c3⟩ := (HT2.out.row.acs (by rw [HN2.out]; omega)).at k hil
          have hnm := HFE2.out k hil
          have HIN : Hid (∀ wx, AcRow wx B1 (.slice (some ad) i p6) L2 → AcIn wx ad k L2[k]) := Lib.hid (fun wx hx => by
            obtain ⟨ad', e, _, h⟩ := (hx.acs (by rw [HN2.out]; omega)).at k hil
            obtain rfl := Option.some.inj e
            exact h)
          obtain ⟨o, ho⟩ : ∃ o, L2[k] = o := ⟨_, rfl⟩
          rw [ho] at c0 c1 c2 c3 hnm HIN
          have HSN : Hid (L2.take (k + 1) = L2.take k ++ [o]) := Lib.hid (by rw [List.take_succ_eq_append_getElem hil, ho])
          obtain ⟨kind, nm, x, t⟩ := o
          simp only at c0 c1 c2 c3 hnm
          have hsz : B0 ≤ wr.heap.size := by have := HB2.out.size; omega
          obtain ⟨b', hb'⟩ : ∃ b', hearC b nm x 0 = b' := ⟨_, rfl⟩
          obtain ⟨r, hr⟩ : ∃ r, hearB b nm x 0 = r := ⟨_, rfl⟩
          have hLb : b.L.length ≤ 1000000 := by
            have := new_len sl (L2.take k)
            rw [← HA.out.1, List.length_take] at this
            omega
          have HHE := Lib.hid (HT2.out.drew.hearD hsz nm x 0 b' r (by omega) hLb hb' hr)
          have HA' : Hid (r = true → b' = hearL (newC sl 0) (L2.take (k + 1)) ∧ okL (newC sl 0) (L2.take (k + 1)) = true) := Lib.hid (fun e => by
            obtain ⟨h1, h2⟩ := HA.out
            rw [HSN.out, hearL_snoc, okL_snoc, ← h1, h2]
            exact ⟨hb'.symm, by simp [hr, e]⟩)
          clear ho hil hb' hr hLb
          go_wp2_with fail
          go_region_held3 (fun w' => w'.cell? ⟨(ad.add (k * 4)).block, (ad.add (k * 4)).off + 1, none⟩ = some (.string (bs nm)) ∧ w'.cell? ⟨(ad.add (k * 4)).block, (ad.add (k * 4)).off + 2, none⟩ = some (.int .i64 x)) (go_keep) (first | (go_at_call 13; refine (HHE.out).mono ?_; rintro e w7 ⟨rfl, ht7, hb7⟩; have HT7 := Lib.hid ht7; have HB7' := Lib.hid (Below.trans (Below.drew (Below.refl B0 wr)) hb7); obtain ⟨d0, d1, d2, d3⟩ := HIN.out w7 HT7.out.row; clear ht7 hb7) | fail)
          have HB7 : Hid (Below B0 w w7) := Lib.hid (HB2.out.trans HB7'.out)
          clear c0 c1 c2 c3 d0 d1 d2 d3
          cases r with
          | true =>
            go_wp2_with fail
            refine ⟨⟨k + 1, by omega, by simp, b', HA'.out trivial, HT7⟩, ?_⟩
            simp only [intOf]
            omega
          | false =>
            go_wp2_with fail
            go_ret
            exact ⟨rfl, HB7.out⟩
        · obtain rfl : k = i := by omega
          have HSR : Hid (SameR a b) := Lib.hid (by
            have h := HA.out
            rw [List.take_of_length_le (by rw [HN2.out]; exact Nat.le_refl _)] at h
            rw [HAN.out.1, h.1]
            exact same_of sl HPM.out HAN.out.2 h.2)
          have HLL : Hid (a.L.length ≤ 1000000 ∧ b.L.length ≤ 1000000) := Lib.hid (by
            have h1 := new_len sl l
            have h2 := new_len sl (L2.take k)
            rw [← HAN.out.1, HN.out] at h1
            rw [← HA.out.1, List.length_take] at h2
            omega)
          have hszw : B0 ≤ wr.heap.size := by have := HB2.out.size; omega
          clear HA HAN HT HB
          obtain ⟨wo2, HWO2⟩ : ∃ wo2 : World, wo2 = wr := ⟨_, rfl⟩
          subst HWO2
          obtain ⟨NS, hNS⟩ : ∃ NS, a.L.map Sr.name = NS := ⟨_, rfl⟩
          have HMB : Hid (b.L.map Sr.name = NS) := Lib.hid (by rw [← HSR.out.names, hNS])
          obtain ⟨M, hM⟩ : ∃ M, NS.length = M := ⟨_, rfl⟩
          have hM6 : M ≤ 1000000 := by rw [← hM, ← hNS, List.length_map]; exact HLL.out.1
          have hsa := src_any HT2.out.pair.mc HLL.out.1
          rw [hNS] at hsa
          have HSA := Lib.hid hsa
          have HNS := Lib.hid hNS
          have HM := Lib.hid hM
          clear hsa hNS hM
          go_wp2_with fail
          refine (HSA.out).mono ?_
          rintro e w8 ⟨v8, rfl, ht8, hb8⟩
          obtain ⟨q8, p8, rfl⟩ := ht8.len
          rw [HM.out] at ht8
          rw [HM.out]
          have HX8 := Lib.hid ht8
          have HP8 := Lib.hid (HT2.out.pair.below hb8)
          have HB8 : Hid (Below B0 w w8) := Lib.hid (HB2.out.trans (hb8.mono hszw))
          have hsb := src_any HP8.out.md HLL.out.2
          rw [HMB.out] at hsb
          have HSB := Lib.hid hsb
          clear ht8 hb8 hsb HSA
          go_wp2_with fail
          refine (HSB.out).mono ?_
          rintro e w9 ⟨v9, rfl, ht9, hb9⟩
          obtain ⟨q9, p9, rfl⟩ := ht9.len
          rw [HM.out] at ht9
          rw [HM.out]
          have HY9 := Lib.hid ht9
          have HX9 := Lib.hid (HX8.out.below hb9 (Nat.le_refl _))
          have HP9 := Lib.hid (HP8.out.below hb9)
          have HB9 : Hid (Below B0 w w9) := Lib.hid (HB8.out.trans (hb9.mono (by have := HB8.out.size; omega)))
          clear ht9 hb9 HSB HX8 HP8 HB8
          go_wp2_with fail
          go_loopw [14] (fun iv wr => ∃ (j : Nat), j ≤ M ∧ iv = .int .i64 j ∧ Hid (Txts wr 0 (.slice q8 M p8) NS) ∧ Hid (Txts wr 0 (.slice q9 M p9) NS) ∧ Hid (Pair wr B0 c B d D a b) ∧ Hid (Below B0 w wr)) (fun iv _ => M - (intOf iv).toNat)
          case atStart => exact ⟨0, by omega, rfl, own_base9 HX9.out, own_base9 HY9.out, HP9.out, HB9.out⟩
          case round =>
            obtain ⟨j, hj, rfl, HX, HY, HPJ, HBJ⟩ := hrel
            by_cases hlt3 : j < M
            · have hjl : j < NS.length := by rw [HM.out]; exact hlt3
              obtain ⟨gx, rfl, cx⟩ := HX.out.at j hjl
              obtain ⟨gy, rfl, cy⟩ := HY.out.at j hjl
              obtain ⟨n, hn⟩ : ∃ n, NS[j] = n := ⟨_, rfl⟩
              rw [hn] at cx cy
              have hmem : n ∈ NS := by rw [← hn]; exact List.getElem_mem hjl
              have hnl : n.length ≤ 1000000 := by
                have h1 := hmem
                rw [← HNS.out] at h1
                obtain ⟨s, hs, rfl⟩ := List.mem_map.1 h1
                have := okName_len (HPJ.out.mc.ok.names s hs)
                omega
              have HCX : Hid (∀ wx, Txts wx 0 (.slice (some ⟨gx, 0, none⟩) M p8) NS → wx.cell? ⟨gx, j, none⟩ = some (.string (bs n))) := Lib.hid (fun wx hx => by
                obtain ⟨g', e, h⟩ := hx.at j hjl
                cases e
                rw [hn] at h
                exact h)
              have HCY : Hid (∀ wx, Txts wx 0 (.slice (some ⟨gy, 0, none⟩) M p9) NS → wx.cell? ⟨gy, j, none⟩ = some (.string (bs n))) := Lib.hid (fun wx hx => by
                obtain ⟨g', e, h⟩ := hx.at j hjl
                cases e
                rw [hn] at h
                exact h)
              obtain ⟨hh, hhe⟩ : ∃ hh, heardC a n = hh := ⟨_, rfl⟩
              have hhb : heardC b n = hh := by rw [← HSR.out.heard]; exact hhe
              have haa : activeC a n = true := HSR.out.actA n (by rw [HNS.out]; exact hmem)
              have hab : activeC b n = true := HSR.out.actB n (by rw [HMB.out]; exact hmem)
              have K1 : Hid (∀ wx, Pair wx B0 c B d D a b → Calls Try.prog 15 #[.pointer (some ⟨c, 0, none⟩), .string (bs n)] wx fun e w' => e = .returned (.int .i64 hh) ∧ Below wx.heap.size wx w') := Lib.hid (fun wx hx => by
                have := heard_any hx.mc n hnl
                rwa [hhe] at this)
              have K2 : Hid (∀ wx, Pair wx B0 c B d D a b → Calls Try.prog 15 #[.pointer (some ⟨d, 0, none⟩), .string (bs n)] wx fun e w' => e = .returned (.int .i64 hh) ∧ Below wx.heap.size wx w') := Lib.hid (fun wx hx => by
                have := heard_any hx.md n hnl
                rwa [hhb] at this)
              have K3 : Hid (∀ wx, Pair wx B0 c B d D a b → Calls Try.prog 16 #[.pointer (some ⟨c, 0, none⟩), .string (bs n)] wx fun e w' => e = .returned (.bool true) ∧ Below wx.heap.size wx w') := Lib.hid (fun wx hx => by
                have := active_any hx.mc n hnl
                rwa [haa] at this)
              have K4 : Hid (∀ wx, Pair wx B0 c B d D a b → Calls Try.prog 16 #[.pointer (some ⟨d, 0, none⟩), .string (bs n)] wx fun e w' => e = .returned (.bool true) ∧ Below wx.heap.size wx w') := Lib.hid (fun wx hx => by
                have := active_any hx.md n hnl
                rwa [hab] at this)
              have HSZ : Hid (B0 ≤ wr.heap.size) := Lib.hid (by have := HBJ.out.size; omega)
              have hpj := HPJ.out.drew
              have hself : ((bs n).toList == (bs n).toList) = true := by simp
              clear hn hmem hhe hhb haa hab hjl hnl
              go_wp2_with fail
              go_region_held3 (fun w' => w'.cell? ⟨gx, j, none⟩ = some (.string (bs n)) ∧ w'.cell? ⟨gy, j, none⟩ = some (.string (bs n))) (go_keep) (first | (go_at_call 16; refine (K4.out _ HPc.out).mono ?_; rintro e wd ⟨rfl, hbd⟩; have HPd := Lib.hid (HPc.out.below hbd); have HXd := Lib.hid (HXc.out.below hbd (Nat.le_refl _)); have HYd := Lib.hid (HYc.out.below hbd (Nat.le_refl _)); have HBd : Hid (Below wr.heap.size wr wd) := Lib.hid (HBc.out.trans (hbd.mono HBc.out.size)); have xd := HCX.out _ HXd.out; have yd := HCY.out _ HYd.out; clear hbd) | (go_at_call 16; refine (K3.out _ HPb.out).mono ?_; rintro e wc ⟨rfl, hbc⟩; have HPc := Lib.hid (HPb.out.below hbc); have HXc := Lib.hid (HXb.out.below hbc (Nat.le_refl _)); have HYc := Lib.hid (HYb.out.below hbc (Nat.le_refl _)); have HBc : Hid (Below wr.heap.size wr wc) := Lib.hid (HBb.out.trans (hbc.mono HBb.out.size)); have xc := HCX.out _ HXc.out; have yc := HCY.out _ HYc.out; clear hbc) | (go_at_call 15; refine (K2.out _ HPa.out).mono ?_; rintro e wb ⟨rfl, hbb⟩; have HPb := Lib.hid (HPa.out.below hbb); have HXb := Lib.hid (HXa.out.below hbb (Nat.le_refl _)); have HYb := Lib.hid (HYa.out.below hbb (Nat.le_refl _)); have HBb : Hid (Below wr.heap.size wr wb) := Lib.hid (HBa.out.trans (hbb.mono HBa.out.size)); have xb := HCX.out _ HXb.out; have yb := HCY.out _ HYb.out; clear hbb) | (go_at_call 15; refine (K1.out _ hpj).mono ?_; rintro e wa ⟨rfl, hba⟩; have HPa := Lib.hid (hpj.below hba); have HXa := Lib.hid (Txts.below (w := wr.drew) HX.out hba (Nat.le_refl _)); have HYa := Lib.hid (Txts.below (w := wr.drew) HY.out hba (Nat.le_refl _)); have HBa : Hid (Below wr.heap.size wr wa) := Lib.hid (Below.trans (Below.drew (Below.refl _ wr)) hba); have xa := HCX.out _ HXa.out; have ya := HCY.out _ HYa.out; clear hba) | fail)
              have HBE : Hid (Below B0 w wd) := Lib.hid (HBJ.out.trans (HBd.out.mono HSZ.out))
              go_wp2_with fail
              refine ⟨⟨j + 1, by omega, by simp, HXd, HYd, HPd, HBE⟩, ?_⟩
              simp only [intOf]
              omega
            · obtain rfl : j = M := by omega
              go_wp2_with fail
              go_ret
              exact ⟨rfl, HBJ.out⟩
end Go.Proofs.Ytmoooeadiminbaa
