/- Several texts in one: Ma, Mb0. -/
import Derived.Test.YtghnbkkfghfifaaGreatDoorML
import Derived.Test.YtghnbkkfghfifaaGreatDoorKb
/- JournalErases. -/
namespace Go.Proofs.YtghnbkkfghfifaaGreatDoor
open Go.RowKit Go.Maps D
set_option linter.unusedVariables false
/-- An entry where a person's are erased. -/
def rwS (s : ByteArray) (x : Ev) : Ev := rw1 gone (kpS s) zeroE x
theorem rwS_ok {s : ByteArray} {x : Ev} (h : OkE x) : OkE (rwS s x) := by
  unfold rwS rw1
  split
  · exact .inl rfl
  · exact h
theorem rwS_pos {s : ByteArray} {x : Ev} (hm : E.mayB x = true) (h : (x.p.toList == s.toList) = true) : rwS s x = zeroE := by
  unfold rwS rw1 drops kpS
  rw [gone_may hm, h]; rfl
theorem rwS_neg {s : ByteArray} {x : Ev} (hm : E.mayB x = true) (h : (x.p.toList == s.toList) = false) : rwS s x = x := by
  unfold rwS rw1 drops kpS
  rw [gone_may hm, h]; rfl
theorem en_blk {w : World} {base : Nat} {v : Value} {es : List Ev} (h : EnRow w base v es) {g : Nat} (hg : v.ownBlock = some g) : ∃ cur, w.heap[g]? = some (.cells cur 79 (0, 0)) := by
  rcases h.2 with ⟨rfl, _⟩ | ⟨g', cap, cur, rfl, _, hh, _⟩
  · cases hg
  · cases hg; exact ⟨cur, hh⟩
theorem en_ne {w : World} {base : Nat} {v : Value} {es : List Ev} (h : EnRow w base v es) {b : Nat} {cs : List Value} {t : TypeId} (hb : Blk w b cs t) (ht : t ≠ 79) : v.ownBlock ≠ some b := by
  intro hg
  obtain ⟨cur, hh⟩ := en_blk h hg
  unfold Blk at hb
  rw [hb] at hh
  cases hh
  exact ht rfl
theorem EnRow.kept {w w' : World} {base : Nat} {v : Value} {l : List Ev} {row : Option Nat} (h : EnRow w base v l) (hg : w.grownBy w' row) (hr : ∀ g, v.ownBlock = some g → some g ≠ row) : EnRow w' base v l :=
  World.ownsRow.kept h hg (by
    cases hv : v.ownBlock with
    | none => exact .inl rfl
    | some g => exact .inr (hr g hv))
theorem en_news {w : World} (x : Ev) (b : Nat) (hb : w.heap.size = b) (t : Bool) (ht : gone x = t) : ∀ j u, (enL x)[j]? = some u → (w.alloc (.cells #[.string x.s, .int .i64 x.n, .int .i64 x.a, .int .i64 x.k, .string x.p, .string x.i, .int .i64 x.v, .string x.t, .bool t] 79)).cell? ((⟨b, 0, none⟩ : Addr).add j) = some u := fun j u hu => by
  subst hb ht
  rw [Addr.add_mid, Nat.zero_add]
  exact (Blk.new w (enL x) 79).c j hu
theorem own_slice {w : World} {base : Nat} {e : TypeId} {size : Nat} {v : Value} {n : Nat} {xs : List Value} (h : w.ownsRow base e size v n xs) : ∃ q cap, v = .slice q n cap := by
  rcases h.2 with ⟨hv, h0⟩ | ⟨g, cap, cur, hv, _⟩
  · exact ⟨none, 0, by rw [hv, h0]⟩
  · exact ⟨_, cap, hv⟩
/-- A row in a box has got one more. -/
theorem en_done {w w4 : World} {b n : Nat} {mv v4 z : Value} {es : List Ev} {x : Ev} {w0 : World} {o : Obj} (hn : es.length = n) (hX : Blk w b [mv, z] 30) (hE : EnRow w (b + 1) mv es) (hB : Below b w0 w)
    (hown : w4.ownsRow (b + 1) 79 9 v4 (n + 1) (ensL es ++ enL x)) (hg : (w.alloc o).grownBy w4 mv.ownBlock) :
    Blk w4 b [mv, z] 30 ∧ Blk (w4.setCell ⟨b, 0, none⟩ v4) b [v4, z] 30 ∧ EnRow (w4.setCell ⟨b, 0, none⟩ v4) (b + 1) v4 (es ++ [x]) ∧ Below b w0 (w4.setCell ⟨b, 0, none⟩ v4) ∧ b < (w4.setCell ⟨b, 0, none⟩ v4).heap.size := by
  subst hn
  have hXa : Blk (w.alloc o) b [mv, z] 30 := hX.below ((Below.refl _ w).alloc (Nat.le_refl _) o) hX.lt
  have hEa : EnRow (w.alloc o) (b + 1) mv es := World.ownsRow.alloc hE o
  have h4 : Blk w4 b [mv, z] 30 := hXa.kept hg (fun e => en_ne hEa hXa (by decide) e.symm)
  have hE4 : EnRow w4 (b + 1) v4 (es ++ [x]) := by
    unfold EnRow
    rw [List.length_append, ensL_app, ensL_one]
    exact hown
  have h5 : Blk (w4.setCell ⟨b, 0, none⟩ v4) b [v4, z] 30 := h4.set 0 v4
  refine ⟨h4, h5, hE4.kept (grownBy_set w4 ⟨b, 0, none⟩ v4) (fun g hg' e => en_ne hE4 h4 (by decide) (by rw [hg', Option.some.inj e])), ?_, h5.lt⟩
  exact ((hB.alloc (Nat.le_of_lt hX.lt) o).grown hg (Nat.le_of_lt hXa.lt) (fun k hk => Nat.le_of_succ_le (own_block hE k hk))).setCell (Nat.le_refl _) v4
theorem kept9 {w : World} {g : Nat} (a0 a1 a2 a3 a4 a5 a6 a7 a8 : Value) : Kept (fun i => i = g) w (((((((((w.setCell ⟨g, 0, none⟩ a0).setCell ⟨g, 1, none⟩ a1).setCell ⟨g, 2, none⟩ a2).setCell ⟨g, 3, none⟩ a3).setCell ⟨g, 4, none⟩ a4).setCell ⟨g, 5, none⟩ a5).setCell ⟨g, 6, none⟩ a6).setCell ⟨g, 7, none⟩ a7).setCell ⟨g, 8, none⟩ a8) :=
  (((((((((Kept.refl (fun i => i = g) w).set ⟨g, 0, none⟩ a0 (Or.inr (show (fun i => i = g) g from rfl))).set ⟨g, 1, none⟩ a1 (Or.inr (show (fun i => i = g) g from rfl))).set ⟨g, 2, none⟩ a2 (Or.inr (show (fun i => i = g) g from rfl))).set ⟨g, 3, none⟩ a3 (Or.inr (show (fun i => i = g) g from rfl))).set ⟨g, 4, none⟩ a4 (Or.inr (show (fun i => i = g) g from rfl))).set ⟨g, 5, none⟩ a5 (Or.inr (show (fun i => i = g) g from rfl))).set ⟨g, 6, none⟩ a6 (Or.inr (show (fun i => i = g) g from rfl))).set ⟨g, 7, none⟩ a7 (Or.inr (show (fun i => i = g) g from rfl))).set ⟨g, 8, none⟩ a8 (Or.inr (show (fun i => i = g) g from rfl))
theorem blk9 {w : World} {g : Nat} {b0 b1 b2 b3 b4 b5 b6 b7 b8 : Value} {t : TypeId} (h : Blk w g [b0, b1, b2, b3, b4, b5, b6, b7, b8] t) (a0 a1 a2 a3 a4 a5 a6 a7 a8 : Value) : Blk (((((((((w.setCell ⟨g, 0, none⟩ a0).setCell ⟨g, 1, none⟩ a1).setCell ⟨g, 2, none⟩ a2).setCell ⟨g, 3, none⟩ a3).setCell ⟨g, 4, none⟩ a4).setCell ⟨g, 5, none⟩ a5).setCell ⟨g, 6, none⟩ a6).setCell ⟨g, 7, none⟩ a7).setCell ⟨g, 8, none⟩ a8) g [a0, a1, a2, a3, a4, a5, a6, a7, a8] t :=
  ((((((((h.set 0 a0).set 1 a1).set 2 a2).set 3 a3).set 4 a4).set 5 a5).set 6 a6).set 7 a7).set 8 a8
theorem pay_zero400 : (pay zeroE).length ≤ 400 := by rw [pay_zero]; decide
section
variable {w : World}
set_option maxRecDepth 100000 in
set_option maxHeartbeats 4000000 in
set_option pp.maxSteps 100000 in
theorem law_erases (hL : E.Lay w) (p : Int) (lv : Value) (es : List Ev) (s : ByteArray) (hv : E.Evs w w.heap.size lv es) :
    Calls Tryz.prog 8 #[.int .i64 p, lv, .string s] w fun e w' => e = .returned (.bool true) ∧ Below w.heap.size w w' := by
  obtain ⟨q, cap, rfl⟩ := hv.shape
  obtain ⟨N, hN⟩ : ∃ N, es.length = N := ⟨_, rfl⟩
  obtain ⟨b1, hb1⟩ : ∃ b1, es.all (fun e => decide (E.Small e 300)) = b1 := ⟨_, rfl⟩
  obtain ⟨b2, hb2⟩ : ∃ b2, es.all E.mayB = b2 := ⟨_, rfl⟩
  have HV := Lib.hid hv
  have hbx : Below w.heap.size w (w.alloc (.cells #[.string s] 9)) := (Below.refl _ w).alloc (Nat.le_refl _) _
  have HBX := Lib.hid hbx
  have HLV := Lib.hid (lives_any (w.alloc (.cells #[.string s] 9)) (hL.next hbx))
  have HBK : Hid (Blk (w.alloc (.cells #[.string s] 9)) w.heap.size [.string s] 9) := Lib.hid (Blk.new w [.string s] 9)
  have HS1 := Lib.hid (fun (w1 : World) (hb : Below w.heap.size w w1) (hle : es.length ≤ 1000000) => E.rsome_any (.slice q es.length cap) es 300 hle w1 (evs_mono (HV.out.below hb (Nat.le_refl _)) hb.size))
  have HS2 := Lib.hid (fun (w1 : World) (hb : Below w.heap.size w w1) (ht : es.all (fun e => decide (E.Small e 300)) = true) (hle : es.length ≤ 1000000) => E.rall_any (.slice q es.length cap) es (fun e he => small_t (of_decide_eq_true (List.all_eq_true.1 ht e he))) hle w1 (evs_mono (HV.out.below hb (Nat.le_refl _)) hb.size))
  rw [hb1] at HS1 HS2
  rw [hb2] at HS2
  rw [hN] at HS1 HS2 HV ⊢
  have HL := Lib.hid hL
  have HMAY := Lib.hid hb2
  have HNN := Lib.hid hN
  clear hv hL hb1 hb2 hN hbx
  go_enter Tryz.func8, Tryz.ntmps8
  go_wp2_with fail
  refine (HLV.out).mono ?_
  rintro e w1 ⟨rfl, hbl⟩
  have HBK1 := Lib.hid (HBK.out.below hbl HBK.out.lt)
  have HB1 := Lib.hid (HBX.out.trans (hbl.mono HBX.out.size))
  clear hbl HBK HBX HLV
  go_wp2_with (first | (go_at_call 38; refine (HS1.out _ HB1.out (by omega)).mono ?_; rintro e w2 ⟨rfl, hb2⟩; have HB2 := Lib.hid (HB1.out.trans (hb2.mono HB1.out.size)); have HBK2 := Lib.hid (HBK1.out.below hb2 HBK1.out.lt); clear hb2) | (go_at_call 34; refine (HS2.out _ HB2.out (by assumption) (by omega)).mono ?_; rintro e w3 ⟨rfl, hb3⟩; have HB3 := Lib.hid (HB2.out.trans (hb3.mono HB2.out.size)); have HBK3 := Lib.hid (HBK2.out.below hb3 HBK2.out.lt); clear hb3))
  all_goals (try (go_ret; exact ⟨rfl, by first | exact HB3.out | exact HB2.out | exact HB1.out⟩))
  have hp1 : 1 ≤ p := by assumption
  have hp2 : p ≤ 8 := by assumption
  have hn60 : (N : Int) ≤ 60 := by assumption
  have hb2t : b2 = true := by simpa using (show (!b2) = false by assumption)
  have hb1t : b1 = true := by assumption
  subst hb2t
  subst hb1t
  obtain ⟨P, rfl⟩ := Int.eq_ofNat_of_zero_le (show 0 ≤ p by omega)
  have z0 := HL.out.sz
  have z3 := HB3.out.size
  have zb := HBK3.out.lt
  have HP : Hid (1 ≤ P ∧ P ≤ 8 ∧ N ≤ 60) := Lib.hid (by omega)
  have HN1 := Lib.hid (new_dk w3 (fun i => w3.heap.size ≤ i) (fun i hi => hi))
  refine (HN1.out).mono ?_
  rintro e w4 ⟨d, rfl, hd, hb4⟩
  have HO := Lib.hid (open_new (n := jN) (per := P) (F := fun i => w3.heap.size ≤ i) (fun i hi => Nat.le_trans hb4.size hi) (fun i hi => by omega) ((HL.out.next HB3.out).next hb4) hd jN_name ⟨HP.out.1, by have := HP.out; omega⟩)
  have HB4 := Lib.hid hb4
  clear hd hb4 HN1 HS1 HS2
  go_wp2_with fail
  refine (HO.out).mono ?_
  rintro e w5 ⟨l, v, k', rfl, hm5, hk5, st, hu5⟩
  have hk35 : Kept (fun i => w3.heap.size ≤ i) w3 w5 := (Kept.bel (Kept.refl _ w3) HB4.out).trans hk5
  have hb35 : Below w3.heap.size w3 w5 := hk35.below (Nat.le_refl _) (fun i hi => hi)
  have hbk5 := HBK3.out.below hb35 HBK3.out.lt
  have hev5 : E.Evs w5 w.heap.size (.slice q N cap) es := HV.out.below (HB3.out.trans (hb35.mono z3)) (Nat.le_refl _)
  have hap := app_up (F := fun i => w3.heap.size ≤ i) (fun i hi => Nat.le_trans hb35.size hi) hm5 hu5 (.slice q N cap) es (EvP.of (B := w.heap.size) hev5 (Nat.le_trans z3 hb35.size) (fun i hi hg => by omega)) HMAY.out (by rw [HNN.out]; show 0 + N ≤ 2000; have := HP.out; omega)
  have HAP := Lib.hid hap
  have HB5 := Lib.hid hb35
  have HBK5 := Lib.hid hbk5
  clear hap hb35 hbk5 hev5 hm5 hk5 hu5 hk35 HO HB4
  go_wp2_with fail
  refine (HAP.out).mono ?_
  rintro e w6 ⟨rfl, v6, j6, st6, hm6, hk6, hu6, hr6⟩
  have hes6 : j6.es = es := by have := hr6.es; simpa using this
  have hok6 : ∀ e ∈ j6.es, OkE e := by rw [hes6]; exact all_may HMAY.out
  have hf6 := Fz.app HP.out.1 (fz_new HP.out.1 k') hr6
  rw [List.nil_append] at hf6
  have hb6 : Below w3.heap.size w3 w6 := HB5.out.trans (hk6.below HB5.out.size (fun i hi => hi))
  have hbk6 := HBK5.out.below (hk6.below HB5.out.size (fun i hi => hi)) zb
  obtain ⟨j7, st7, e7, hu7, hfi7, hes7, hla7⟩ := hu6.rewrite (er := gone) (kp := kpS s) (zero := zeroE) pay_zero400
  have hBoth : Both (HasS w.heap.size s) w6 (fun i => w3.heap.size ≤ i) (fun i => i = w.heap.size ∨ w6.heap.size ≤ i) d l jN P v6 j6 [] := ⟨fun i => w3.heap.size ≤ i, fun i => i = w.heap.size ∨ w6.heap.size ≤ i, fun i hi => hi, fun i hi => hi, fun i hi => ⟨Nat.le_trans hb6.size hi, .inr hi⟩, fun i hl hf hp => by omega, hm6, ⟨hbk6, .inl rfl⟩, fun i hi => by have := hb6.size; omega⟩
  have hrw := jrewr_go (keeps44 w.heap.size s) hBoth (fun i hi => by omega) hu6.stuck hok6 (.inr hu6.ge) (by rw [hes6, HNN.out]; have := HP.out; show 0 + 2 * N ≤ 1048576; omega)
  rw [e7] at hrw
  have HRW := Lib.hid hrw
  have HB6 := Lib.hid hb6
  have HU7 := Lib.hid hu7
  have HE7 : Hid (j7.es = es.map (rwS s)) := Lib.hid (by rw [hes7, hes6]; rfl)
  have HF7 : Hid (j7.files = (N + P - 1) / P) := Lib.hid (by rw [hfi7, hf6.files, HNN.out])
  clear hes6 hok6 hf6 hb6 hbk6 e7 hu7 hfi7 hes7 hla7 hBoth hrw hm6 hk6 hu6 hr6 HAP HBK5 HBK3 HBK2 HBK1
  go_wp2_with fail
  refine (HRW.out).mono ?_
  rintro e w7 ⟨rfl, v7, qs7, hb7, -, hk7⟩
  have hm7 := hb7.logm (fun i hi => by omega)
  obtain ⟨F7, P7, -, -, -, -, -, ⟨hbk7, -⟩, -⟩ := id hb7
  have HBK7 := Lib.hid hbk7
  have HM7 := Lib.hid hm7
  have H37 : Hid (w3.heap.size ≤ w7.heap.size) := Lib.hid (Nat.le_trans HB6.out.size hk7.size)
  have HB7 : Hid (Below w.heap.size w w7) := Lib.hid ((HB3.out.trans (HB6.out.mono z3)).trans (hk7.below (Nat.le_trans z3 HB6.out.size) (fun i hi => by have := HB6.out.size; omega)))
  clear hb7 hm7 hk7 HRW HB6 HB5 hbk7
  go_wp2_with fail
  obtain ⟨i79, hi79, hz79, hy79, hx79⟩ := info_parts info79
  go_loopw [11] (fun i wr => ∃ (k : Nat) (mv : Value), k ≤ N ∧ i = .int .i64 k ∧ Hid (Blk wr w7.heap.size [mv, .int .i64 0] 30) ∧ Hid (EnRow wr (w7.heap.size + 1) mv ((es.take k).map (rwS s))) ∧ Hid (Below w7.heap.size w7 wr) ∧ Hid (w7.heap.size < wr.heap.size)) (fun i _ => N - (intOf i).toNat)
  case atStart =>
    exact ⟨0, .slice none 0 0, by omega, rfl, Lib.hid (Blk.new w7 [.slice none 0 0, .int .i64 0] 30), Lib.hid (EnRow.nil _ _), Lib.hid ((Below.refl _ w7).alloc (Nat.le_refl _) _), Lib.hid (by rw [World.size_alloc]; omega)⟩
  case round =>
    obtain ⟨k, mv, hk, rfl, HXr, HEr, HBr, HLr⟩ := hrel
    by_cases hlt : k < N
    · obtain ⟨ad, hq, hab, hc⟩ := E.Evs.at (show E.Evs wr w.heap.size (.slice q es.length cap) es by rw [HNN.out]; exact HV.out.below (HB7.out.trans (HBr.out.mono HB7.out.size)) (Nat.le_refl _)) k (by rw [HNN.out]; exact hlt)
      obtain ⟨c0, c1', c2', c3, c4, c5, c6, c7⟩ := hc
      obtain ⟨ev, hev⟩ : ∃ ev, es[k]'(by rw [HNN.out]; exact hlt) = ev := ⟨_, rfl⟩
      have hmay := List.all_eq_true.1 HMAY.out _ (List.getElem_mem (l := es) (n := k) (by rw [HNN.out]; exact hlt))
      have htk : (es.take (k + 1)).map (rwS s) = (es.take k).map (rwS s) ++ [rwS s ev] := by rw [List.take_succ_eq_append_getElem (by rw [HNN.out]; exact hlt), hev, List.map_append]; rfl
      rw [hev] at c0 c1' c2' c3 c4 c5 c6 c7 hmay
      have HTK := Lib.hid htk
      have HMV := Lib.hid hmay
      have HS9 := Lib.hid (HBK7.out.below HBr.out HBK7.out.lt)
      have s0 := HS9.out.c 0 rfl
      have m0 := HXr.out.c 0 rfl
      have y1 := HS9.out.lt
      have y2 := HLr.out
      have y5 : ad.block < wr.heap.size := Nat.lt_of_lt_of_le hab (Nat.le_trans HB7.out.size HBr.out.size)
      have y6 : (ad.add (k * 8)).block < wr.heap.size := by rw [add_block]; exact y5
      have y3 : w.heap.size ≠ w7.heap.size := by have := HBK7.out.lt; omega
      obtain ⟨qm, cm, rfl⟩ := HEr.out.shape
      have hlm : ((es.take k).map (rwS s)).length = k := by rw [List.length_map, List.length_take, HNN.out]; omega
      have HLM := Lib.hid hlm
      rw [hlm] at HXr HEr m0
      obtain ⟨Lk, hLk⟩ : ∃ Lk, (es.take k).map (rwS s) = Lk := ⟨_, rfl⟩
      rw [hLk] at HLM HEr HTK
      obtain ⟨s1, n1, a1, k1, p1, i1, v1, t1⟩ := ev
      simp only at c0 c1' c2' c3 c4 c5 c6 c7
      subst hq
      obtain ⟨G, hG⟩ : ∃ G, (p1.toList == s.toList) = G := ⟨_, rfl⟩
      have HG := Lib.hid hG
      clear hev htk hmay hlm hLk
      cases G
      · go_wp2_with fail
        go_quiet (fail)
        obtain ⟨wq, hwq⟩ : ∃ wq : World, (wr.alloc (.cells #[.string s1, .int .i64 n1, .int .i64 a1, .int .i64 k1, .string p1, .string i1, .int .i64 v1, .string t1, .bool false] 79)).drewN nq = wq := ⟨_, rfl⟩
        have hbq : Below wr.heap.size wr wq := by rw [← hwq]; exact E.below_drewN ((Below.refl _ wr).alloc (Nat.le_refl _) _) nq
        have hxq : Blk wq wr.heap.size [.string s1, .int .i64 n1, .int .i64 a1, .int .i64 k1, .string p1, .string i1, .int .i64 v1, .string t1, .bool false] 79 := by rw [← hwq]; exact (Blk.new wr [.string s1, .int .i64 n1, .int .i64 a1, .int .i64 k1, .string p1, .string i1, .int .i64 v1, .string t1, .bool false] 79).below (E.below_drewN (Below.refl _ _) nq) (Blk.new wr [.string s1, .int .i64 n1, .int .i64 a1, .int .i64 k1, .string p1, .string i1, .int .i64 v1, .string t1, .bool false] 79).lt
        have hzq : Hid (wq.heap.size = wr.heap.size + 1) := Lib.hid (by rw [← hwq]; exact World.size_alloc _ _)
        rw [hwq]
        have hkQ : Hid (Kept (fun i => i = wr.heap.size) wr wq) := Lib.hid (Kept.bel (Kept.refl _ wr) hbq)
        have HEr0 := HEr
        have HXq := Lib.hid (HXr.out.below hbq HXr.out.lt)
        have HEq := Lib.hid (HEr.out.below hbq (Nat.le_refl _))
        have HBq := Lib.hid (HBr.out.trans (hbq.mono HBr.out.size))
        have HBX := Lib.hid hxq
        clear c0 c1' c2' c3 c4 c5 c6 c7 s0 m0 hwq HS9 HXr HEr HBr hG
        have m0 := HXq.out.c 0 rfl
        have x0 := hxq.c 0 rfl
        have x1 := hxq.c 1 rfl
        have x2 := hxq.c 2 rfl
        have x3 := hxq.c 3 rfl
        have x4 := hxq.c 4 rfl
        have x5 := hxq.c 5 rfl
        have x6 := hxq.c 6 rfl
        have x7 := hxq.c 7 rfl
        have x8 := hxq.c 8 rfl
        have HM1 : Hid (k + 1 ≤ maxLen ∧ (k + 1) * 104 ≤ 140737488355328) := Lib.hid (by have := HP.out; unfold maxLen; omega)
        have HEk : Hid (wq.ownsRow (w7.heap.size + 1) 79 9 (.slice qm k cm) k (ensL Lk)) := Lib.hid (by have h := HEq.out; unfold EnRow at h; rw [HLM.out] at h; exact h)
        have HM2 : Hid (w7.heap.size + 1 ≤ (wq.alloc (.cells #[.string s1, .int .i64 n1, .int .i64 a1, .int .i64 k1, .string p1, .string i1, .int .i64 v1, .string t1, .bool false] 79)).heap.size) := Lib.hid (by rw [World.size_alloc]; have := HXq.out.lt; omega)
        have HRX := Lib.hid (rwS_neg (s := s) HMV.out HG.out)
        go_wp2_with (first | (at_builtin; refine wpList_append_own _ rfl (.tmp 74) (.tmp 76) 28 rfl (w7.heap.size + 1) 79 i79 _ 9 104 Tryz.underlying28 hi79 hz79 hy79 hx79 rfl (by decide) (.slice qm k cm) k (ensL Lk) rfl (World.ownsRow.alloc HEk.out _) ⟨wq.heap.size, 0, none⟩ 1 1 (enL (⟨s1, n1, a1, k1, p1, i1, v1, t1⟩ : Ev)) rfl rfl (en_news (w := wq) (⟨s1, n1, a1, k1, p1, i1, v1, t1⟩ : Ev) wq.heap.size rfl false (gone_may HMV.out)) (enL_cell _) HM1.out.1 HM1.out.2 HM2.out ?_; intro v4 w4 hown4 hg4 hn4; obtain ⟨q4, e4, rfl⟩ := own_slice hown4; have H4 := Lib.hid (en_done (o := (.cells #[.string (⟨s1, n1, a1, k1, p1, i1, v1, t1⟩ : Ev).s, .int .i64 (⟨s1, n1, a1, k1, p1, i1, v1, t1⟩ : Ev).n, .int .i64 (⟨s1, n1, a1, k1, p1, i1, v1, t1⟩ : Ev).a, .int .i64 (⟨s1, n1, a1, k1, p1, i1, v1, t1⟩ : Ev).k, .string (⟨s1, n1, a1, k1, p1, i1, v1, t1⟩ : Ev).p, .string (⟨s1, n1, a1, k1, p1, i1, v1, t1⟩ : Ev).i, .int .i64 (⟨s1, n1, a1, k1, p1, i1, v1, t1⟩ : Ev).v, .string (⟨s1, n1, a1, k1, p1, i1, v1, t1⟩ : Ev).t, .bool false] 79)) HLM.out HXq.out HEq.out HBq.out hown4 hg4); have fz := H4.out.1.f 0; have fc := H4.out.1.c 0 rfl; clear hown4 hg4 hn4) | fail)
        exact ⟨⟨k + 1, _, by omega, by go_num, Lib.hid H4.out.2.1, Lib.hid (by rw [HTK.out, HRX.out]; exact H4.out.2.2.1), Lib.hid H4.out.2.2.2.1, Lib.hid H4.out.2.2.2.2⟩, by simp only [intOf]; omega⟩
      · go_wp2_with fail
        go_quiet (fail)
        obtain ⟨wq, hwq⟩ : ∃ wq : World, (wr.alloc (.cells #[.string s1, .int .i64 n1, .int .i64 a1, .int .i64 k1, .string p1, .string i1, .int .i64 v1, .string t1, .bool false] 79)).drewN nq = wq := ⟨_, rfl⟩
        have hbq : Below wr.heap.size wr wq := by rw [← hwq]; exact E.below_drewN ((Below.refl _ wr).alloc (Nat.le_refl _) _) nq
        have hxq : Blk wq wr.heap.size [.string s1, .int .i64 n1, .int .i64 a1, .int .i64 k1, .string p1, .string i1, .int .i64 v1, .string t1, .bool false] 79 := by rw [← hwq]; exact (Blk.new wr [.string s1, .int .i64 n1, .int .i64 a1, .int .i64 k1, .string p1, .string i1, .int .i64 v1, .string t1, .bool false] 79).below (E.below_drewN (Below.refl _ _) nq) (Blk.new wr [.string s1, .int .i64 n1, .int .i64 a1, .int .i64 k1, .string p1, .string i1, .int .i64 v1, .string t1, .bool false] 79).lt
        have hzq : Hid (wq.heap.size = wr.heap.size + 1) := Lib.hid (by rw [← hwq]; exact World.size_alloc _ _)
        rw [hwq]
        have hkQ : Hid (Kept (fun i => i = wr.heap.size) wr wq) := Lib.hid (Kept.bel (Kept.refl _ wr) hbq)
        have HEr0 := HEr
        have HXq := Lib.hid (HXr.out.below hbq HXr.out.lt)
        have HEq := Lib.hid (HEr.out.below hbq (Nat.le_refl _))
        have HBq := Lib.hid (HBr.out.trans (hbq.mono HBr.out.size))
        have HBX := Lib.hid hxq
        clear c0 c1' c2' c3 c4 c5 c6 c7 s0 m0 hwq HS9 HXr HEr HBr hG
        have f0 := hxq.f 0
        have f1 := hxq.f 1
        have f2 := hxq.f 2
        have f3 := hxq.f 3
        have f4 := hxq.f 4
        have f5 := hxq.f 5
        have f6 := hxq.f 6
        have f7 := hxq.f 7
        have f8 := hxq.f 8
        have m0 := HXq.out.c 0 rfl
        have x0 := hxq.c 0 rfl
        have x1 := hxq.c 1 rfl
        have x2 := hxq.c 2 rfl
        have x3 := hxq.c 3 rfl
        have x4 := hxq.c 4 rfl
        have x5 := hxq.c 5 rfl
        have x6 := hxq.c 6 rfl
        have x7 := hxq.c 7 rfl
        have x8 := hxq.c 8 rfl
        have HM1 : Hid (k + 1 ≤ maxLen ∧ (k + 1) * 104 ≤ 140737488355328) := Lib.hid (by have := HP.out; unfold maxLen; omega)
        obtain ⟨wS, hwS⟩ : ∃ wS : World, (((((((((wq.setCell ⟨wr.heap.size, 0, none⟩ (.string ⟨#[]⟩)).setCell ⟨wr.heap.size, 1, none⟩ (.int .i64 0)).setCell ⟨wr.heap.size, 2, none⟩ (.int .i64 0)).setCell ⟨wr.heap.size, 3, none⟩ (.int .i64 0)).setCell ⟨wr.heap.size, 4, none⟩ (.string ⟨#[]⟩)).setCell ⟨wr.heap.size, 5, none⟩ (.string ⟨#[]⟩)).setCell ⟨wr.heap.size, 6, none⟩ (.int .i64 0)).setCell ⟨wr.heap.size, 7, none⟩ (.string ⟨#[]⟩)).setCell ⟨wr.heap.size, 8, none⟩ (.bool true)) = wS := ⟨_, rfl⟩
        have hkS : Kept (fun i => i = wr.heap.size) wq wS := by rw [← hwS]; exact kept9 _ _ _ _ _ _ _ _ _
        have hbS : Blk wS wr.heap.size [.string ⟨#[]⟩, .int .i64 0, .int .i64 0, .int .i64 0, .string ⟨#[]⟩, .string ⟨#[]⟩, .int .i64 0, .string ⟨#[]⟩, .bool true] 79 := by rw [← hwS]; exact blk9 hxq _ _ _ _ _ _ _ _ _
        have HXo := HXq
        have HEo := HEq
        have HBo := HBq
        clear HXq HEq HBq
        have HXq := Lib.hid (HXo.out.keptF hkS (Nat.ne_of_lt y2))
        have HEq : Hid (EnRow wS (w7.heap.size + 1) (.slice qm k cm) Lk) := Lib.hid (HEr0.out.keptF (hkQ.out.trans hkS) (fun g _ hl e => by rw [e] at hl; exact absurd hl (Nat.lt_irrefl _)))
        have HBq := Lib.hid (HBo.out.trans (hkS.below (B := w7.heap.size) (by rw [hzq.out]; omega) (fun i hi => by omega)))
        have HEk : Hid (wS.ownsRow (w7.heap.size + 1) 79 9 (.slice qm k cm) k (ensL Lk)) := Lib.hid (by have h := HEq.out; unfold EnRow at h; rw [HLM.out] at h; exact h)
        have HM2 : Hid (w7.heap.size + 1 ≤ (wS.alloc (.cells #[.string ⟨#[]⟩, .int .i64 0, .int .i64 0, .int .i64 0, .string ⟨#[]⟩, .string ⟨#[]⟩, .int .i64 0, .string ⟨#[]⟩, .bool true] 79)).heap.size) := Lib.hid (by rw [World.size_alloc]; have := HXq.out.lt; omega)
        have HRX := Lib.hid (rwS_pos (s := s) HMV.out HG.out)
        have m9 := HXq.out.c 0 rfl
        have z0 := hbS.c 0 rfl
        have z1 := hbS.c 1 rfl
        have z2 := hbS.c 2 rfl
        have z3 := hbS.c 3 rfl
        have z4 := hbS.c 4 rfl
        have z5 := hbS.c 5 rfl
        have z6 := hbS.c 6 rfl
        have z7 := hbS.c 7 rfl
        have z8 := hbS.c 8 rfl
        go_wp2_with (first | (at_builtin; refine wpList_append_own _ rfl (.tmp 74) (.tmp 76) 28 rfl (w7.heap.size + 1) 79 i79 _ 9 104 Tryz.underlying28 hi79 hz79 hy79 hx79 rfl (by decide) (.slice qm k cm) k (ensL Lk) rfl (World.ownsRow.alloc HEk.out _) ⟨wS.heap.size, 0, none⟩ 1 1 (enL zeroE) rfl rfl (en_news (w := wS) zeroE wS.heap.size rfl true gone_zero) (enL_cell _) HM1.out.1 HM1.out.2 HM2.out ?_; intro v4 w4 hown4 hg4 hn4; obtain ⟨q4, e4, rfl⟩ := own_slice hown4; have H4 := Lib.hid (en_done (o := (.cells #[.string zeroE.s, .int .i64 zeroE.n, .int .i64 zeroE.a, .int .i64 zeroE.k, .string zeroE.p, .string zeroE.i, .int .i64 zeroE.v, .string zeroE.t, .bool true] 79)) HLM.out HXq.out HEq.out HBq.out hown4 hg4); have fz := H4.out.1.f 0; have fc := H4.out.1.c 0 rfl; clear hown4 hg4 hn4) | fail)
        exact ⟨⟨k + 1, _, by omega, by go_num, Lib.hid H4.out.2.1, Lib.hid (by rw [HTK.out, HRX.out]; exact H4.out.2.2.1), Lib.hid H4.out.2.2.2.1, Lib.hid H4.out.2.2.2.2⟩, by simp only [intOf]; omega⟩
    · obtain rfl : k = N := by omega
      obtain ⟨qm, cm, rfl⟩ := HEr.out.shape
      have htk : (es.take k).map (rwS s) = j7.es := by rw [List.take_of_length_le (by rw [HNN.out]; exact Nat.le_refl _), HE7.out]
      rw [htk] at HEr HXr
      have hl7 : j7.es.length = k := by rw [HE7.out, List.length_map, HNN.out]
      rw [hl7] at HEr HXr
      have HL7 := Lib.hid hl7
      have hok7 : ∀ x ∈ j7.es, OkE x := by
        rw [HE7.out]
        intro x hx
        obtain ⟨y, hy, rfl⟩ := List.mem_map.1 hx
        exact rwS_ok (all_may HMAY.out y hy)
      have HOK7 := Lib.hid hok7
      obtain ⟨wr0, hwr0⟩ : ∃ wr0 : World, wr0 = wr := ⟨_, rfl⟩
      have hsz := HBr.out.size
      have hlr := HLr.out
      have h37 : w3.heap.size ≤ w7.heap.size := H37.out
      have hdk : DiskAt wr (fun i => w3.heap.size ≤ i ∧ (i < w7.heap.size ∨ wr.heap.size ≤ i)) d j7.dk := (HM7.out.disk.mono (G := fun i => w3.heap.size ≤ i ∧ (i < w7.heap.size ∨ wr.heap.size ≤ i)) (fun i hi hs => ⟨hi, .inl hs⟩)).below HBr.out
      have HO2 := Lib.hid (open_lie (n := jN) (per := P) (fun i hi => ⟨by omega, .inr hi⟩) (fun i hi => by have := hi.1; omega) ((HL.out.next HB7.out).next HBr.out) hdk HU7.out.up HU7.out.fuse jN_name (by have := HP.out; omega) HU7.out.lie hok7)
      have m0 := HXr.out.c 0 rfl
      have m1 := HXr.out.c 1 rfl
      clear htk hl7 hok7 hsz hlr hdk
      go_wp2_with fail
      refine (HO2.out).mono ?_
      rintro e w8 ⟨l8, v8, k8, rfl, hm8, hk8, st8, hu8⟩
      rw [HL7.out] at hm8 hu8
      have hx8 : Blk w8 w7.heap.size [.slice qm k cm, .int .i64 0] 30 := HXr.out.keptF hk8 (fun h => by have := HLr.out; have := h.2; omega)
      have he8 : EnRow w8 (w7.heap.size + 1) (.slice qm k cm) j7.es := HEr.out.keptF hk8 (fun g h1 h2 h => by have := h.2; omega)
      have hb8 : Below w.heap.size w w8 := (HB7.out.trans (HBr.out.mono HB7.out.size)).trans (hk8.below (Nat.le_trans HB7.out.size HBr.out.size) (fun i hi => Nat.le_trans z3 hi.1))
      obtain ⟨w9, hw9⟩ : ∃ w9 : World, w8.setCell ⟨w7.heap.size, 1, none⟩ (.int .i64 (k : Int)) = w9 := ⟨_, rfl⟩
      have hx9 : Blk w9 w7.heap.size [.slice qm k cm, .int .i64 (k : Int)] 30 := by rw [← hw9]; exact hx8.set 1 (.int .i64 (k : Int))
      have he9 : EnRow w9 (w7.heap.size + 1) (.slice qm k cm) j7.es := by rw [← hw9]; exact he8.kept (grownBy_set w8 ⟨w7.heap.size, 1, none⟩ _) (fun g hg' e => en_ne he8 hx8 (by decide) (by rw [hg', Option.some.inj e]))
      have hm9 := hm8.farF (w' := w9) (P := fun i => i = w7.heap.size) (by rw [← hw9]; exact (Kept.refl (fun i => i = w7.heap.size) w8).set ⟨w7.heap.size, 1, none⟩ (.int .i64 (k : Int)) (.inr rfl)) (fun i hi _ e => by have h1 := hi.2; have h2 := HLr.out; omega) (fun i e => by omega)
      have hb9 : Below w.heap.size w w9 := by rw [← hw9]; exact hb8.setCell HB7.out.size _
      have m08 := hx8.c 0 rfl
      have m18 := hx8.c 1 rfl
      have f18 := hx8.f 1
      have m09 := hx9.c 0 rfl
      have m19 := hx9.c 1 rfl
      have HEV := Lib.hid (even_any hm9 HOK7.out (by show j7.es.length ≤ 100000; rw [HL7.out]; have := HP.out; omega) (.slice qm k cm) k rfl (he9.ens))
      have HM9 := Lib.hid hm9
      have HX9 := Lib.hid hx9
      have HE9 := Lib.hid he9
      have HB9 := Lib.hid hb9
      have HU8 := Lib.hid hu8
      clear hm8 hk8 hu8 hx8 he8 hb8 hx9 he9 hm9 hb9 HO2 HXr HEr HBr HLr HM7 m0 m1
      go_wp2_with fail
      refine (HEV.out).mono ?_
      rintro e w10 ⟨rfl, hb10⟩
      have HM10 := Lib.hid (HM9.out.below hb10)
      have HX10 := Lib.hid (HX9.out.below hb10 HX9.out.lt)
      have HE10 := Lib.hid (HE9.out.below hb10 (Nat.le_refl _))
      have HB10 := Lib.hid (HB9.out.trans (hb10.mono HB9.out.size))
      rw [← hwr0] at HM10
      clear hwr0 hb10 HEV HM9 HX9 HE9 HB9 m08 m18 f18 m09 m19 hw9
      have HSG := Lib.hid (fun w1 => rsegs_any k P ⟨HP.out.1, by have := HP.out; omega⟩ (by have := HP.out; omega) w1)
      obtain ⟨S, hS⟩ : ∃ S, (k + P - 1) / P = S := ⟨_, rfl⟩
      simp only [hS] at HSG
      rw [hS] at HF7
      have HSS : Hid (S ≤ 1005000) := Lib.hid (by rw [← hS]; exact Nat.le_trans (Nat.div_le_self _ _) (by have := HP.out; omega))
      have HKP : Hid (∀ x, x < S → x * P ≤ k) := Lib.hid (fun x hx => by
        have h1 : (S - 1) * P ≤ k := by have := HU8.out.ge; have h2 := HL7.out; have h3 := HF7.out; simp only at this; rw [h2, h3] at this; exact this
        exact Nat.le_trans (Nat.mul_le_mul_right _ (by omega)) h1)
      clear hS
      go_wp2_with fail
      go_loopw [15] (fun i wr => ∃ x : Nat, x ≤ S ∧ i = .int .i64 x ∧ Hid (LogM wr (fun i => w3.heap.size ≤ i ∧ (i < w7.heap.size ∨ wr0.heap.size ≤ i)) d l8 jN P v8 ⟨k8, j7.files, j7.es, k, 0⟩) ∧ Hid (Blk wr w7.heap.size [.slice qm k cm, .int .i64 (k : Int)] 30) ∧ Hid (EnRow wr (w7.heap.size + 1) (.slice qm k cm) j7.es) ∧ Hid (Below w.heap.size w wr)) (fun i _ => S - (intOf i).toNat)
      case atStart => exact ⟨0, by omega, rfl, HM10, HX10, HE10, HB10⟩
      case round =>
        obtain ⟨x, hx, rfl, HMx, HXx, HEx, HBx⟩ := hrel
        by_cases hlx : x < S
        · have hxS : x < 1005001 := by have := HSS.out; omega
          have HN9 : Hid (x + 1 ≤ S ∧ S - (x + 1) < S - x) := Lib.hid (by omega)
          obtain ⟨a1, a2⟩ := HU8.out.at (k := x) (by rw [HF7.out]; exact hlx)
          have hfl := rfile_any x (by have := HSS.out; omega) jN (by decide)
          have hnl : (fileN jN x).length ≤ 1000000 := fileN_short (by decide) (by have := HSS.out; omega)
          have hkx := HKP.out x hlx
          obtain ⟨bb, hbb⟩ : ∃ bb, byt pay (seg j7.es P x) = bb := ⟨_, rfl⟩
          have a2' : readS k8 (fileN jN x) = bb := a2.trans hbb
          have hrd := fun (w1 : World) (hb : Below wr.heap.size wr w1) => D.read_any (HMx.out.below hb).disk (fileN jN x) hnl
          simp only [a1, a2'] at hrd
          have HRD := Lib.hid hrd
          have HFL := Lib.hid hfl
          have HBB := Lib.hid hbb
          have HKX := Lib.hid hkx
          clear a1 a2 a2' hrd hfl hnl hkx hbb
          go_wp2_with (first | (go_at_call 18; refine (HSG.out _).mono ?_; rintro e w' ⟨rfl, hw'⟩; subst w') | fail)
          refine (HFL.out _).mono ?_
          rintro e w11 ⟨rfl, hb11⟩
          have HB11 := Lib.hid hb11
          have HRD11 := Lib.hid (HRD.out _ hb11)
          clear hb11 HRD HFL
          go_wp2_with fail
          refine (HRD11.out).mono ?_
          rintro e w12 ⟨u12, rfl, ho12, -, hb12⟩
          have hbx : Below wr.heap.size wr w12 := HB11.out.trans (hb12.mono HB11.out.size)
          have HMy := Lib.hid (HMx.out.below hbx)
          have HXy := Lib.hid (HXx.out.below hbx HXx.out.lt)
          have HEy := Lib.hid (HEx.out.below hbx (Nat.le_refl _))
          have HBy := Lib.hid (HBx.out.trans (hbx.mono HBx.out.size))
          have hse := HEy.out.ens
          rw [← HL7.out] at hse
          have hk4 : x * P ≤ j7.es.length := by rw [HL7.out]; exact HKX.out
          have hle := show j7.es.length ≤ 100000 by rw [HL7.out]; have := HP.out; omega
          have cT : ∀ dd os, (convert 38 9 u12).run Tryz.prog (Sort.grow (redrawn w12 dd) os) = .ok (.string (bs bb)) (Sort.grow (redrawn w12 dd) os) := fun dd os => ((Seen.own ho12).below (below_regrown w12 dd os) (Nat.le_refl _)).text
          have q0 := cell_regrown (HXy.out.c 0 rfl)
          have cA : ∀ dd os, Calls Tryz.prog 22 #[.slice qm j7.es.length cm, .int .i64 (P : Int), .int .i64 (x : Int)] (Sort.grow (redrawn w12 dd) os) fun e w'' => e = .returned (segV qm cm j7.es.length P x) ∧ ∃ p : Regrown, w'' = Sort.grow (redrawn w12 p.d) p.os := fun dd os => Calls.regrown_of ((rsegm_any qm cm j7.es P x ⟨HP.out.1, by have := HP.out; omega⟩ hk4 hle _ w12.heap.size (hse.below (below_regrown w12 dd os) (Nat.le_refl _))).mono (by rintro e w' ⟨rfl, rfl⟩; exact ⟨rfl, Below.refl _ _⟩))
          have cB : ∀ dd os, Calls Tryz.prog 21 #[segV qm cm j7.es.length P x] (Sort.grow (redrawn w12 dd) os) fun e w'' => e = .returned (.string (bs bb)) ∧ ∃ p : Regrown, w'' = Sort.grow (redrawn w12 p.d) p.os := fun dd os => Calls.regrown_of (by
            have hb := below_regrown w12 dd os
            have h := rbytes_any (segV qm cm j7.es.length P x) (seg j7.es P x) (fun e he => HOK7.out e (by unfold seg at he; exact List.mem_of_mem_drop (List.mem_of_mem_take he))) (by rw [seg_len]; have := HP.out; omega) _ (((hse.below hb (Nat.le_refl _)).seg P x hk4).mono hb.size)
            rw [HBB.out] at h
            exact h)
          rw [HL7.out] at cA cB
          obtain ⟨sv, hsv⟩ : ∃ sv, segV qm cm k P x = sv := ⟨_, rfl⟩
          rw [hsv] at cA cB
          clear hbx ho12 hb12 HB11 HRD11 HMx HXx HEx HBx hse hk4 hle hsv
          go_wp2_with fail
          refine wp_region_quiet_below (by kernel_rfl) (by kernel_rfl) ?_
          repeat (go_big_quiet_step (first | with_reducible exact cA _ _ | with_reducible exact cB _ _))
          refine wpQuiet_nil ?_
          intro _ hw'
          obtain ⟨⟨dq, osq⟩, hw''⟩ := hw'
          subst hw''
          have bq := below_regrown w12 dq osq
          clear cA cB cT q0
          go_wp2_with fail
          exact ⟨⟨x + 1, HN9.out.1, by go_num, Lib.hid (HMy.out.below bq), Lib.hid (HXy.out.below bq HXy.out.lt), Lib.hid (HEy.out.below bq (Nat.le_refl _)), Lib.hid (HBy.out.trans (bq.mono HBy.out.size))⟩, HN9.out.2⟩
        · obtain rfl : x = S := by omega
          go_wp2_with (first | (go_at_call 18; refine (HSG.out _).mono ?_; rintro e w' ⟨rfl, hw'⟩; subst w') | fail)
          go_ret
          exact ⟨rfl, HBx.out⟩
end
end Go.Proofs.YtghnbkkfghfifaaGreatDoor
/- Erased in pieces, plainly. -/
namespace Go.Proofs.YtghnbkkfghfifaaGreatDoor
open Go.RowKit Go.Maps D
set_option linter.unusedVariables false
/-- Is it that person's? -/
def pmS (s : ByteArray) (e : Ev) : Bool := e.p.toList == s.toList
/-- The first ones are erased. -/
def cutL (s : ByteArray) (es : List Ev) (M : Nat) : List Ev := (es.take M).map (rwS s) ++ es.drop M
def ownL (s : ByteArray) (es : List Ev) (i : Nat) : Nat := (es.take i).countP (pmS s)
theorem get_seg {α : Type} (l : List α) {per : Nat} (hp : 1 ≤ per) (i : Nat) : l[i]? = (seg l per (i / per))[i % per]? := by
  rw [seg_get, if_pos (Nat.mod_lt _ hp)]
  congr 1
  have := Nat.div_add_mod i per
  rw [Nat.mul_comm] at this
  exact this.symm
theorem cutL_of {s : ByteArray} {es es' : List Ev} {per m : Nat} (hp : 1 ≤ per) (h : ∀ k, seg es' per k = if k < m then (seg es per k).map (rwS s) else seg es per k) : es' = cutL s es (m * per) := by
  apply List.ext_getElem?
  intro i
  rw [get_seg es' hp i, h]
  unfold cutL
  by_cases hi : i / per < m
  · have hi2 : i < m * per := (Nat.div_lt_iff_lt_mul hp).1 hi
    rw [if_pos hi, List.getElem?_map, ← get_seg es hp i]
    by_cases hl : i < es.length
    · rw [List.getElem?_append_left (by rw [List.length_map, List.length_take]; omega), List.getElem?_map, List.getElem?_take, if_pos hi2]
    · rw [List.getElem?_eq_none (l := es) (by omega)]
      rw [List.getElem?_eq_none (by rw [List.length_append, List.length_map, List.length_take, List.length_drop]; omega)]
      rfl
  · have hi2 : m * per ≤ i := by
      rcases Nat.lt_or_ge i (m * per) with h | h
      · exact absurd ((Nat.div_lt_iff_lt_mul hp).2 h) hi
      · exact h
    rw [if_neg hi, ← get_seg es hp i]
    by_cases hl : m * per ≤ es.length
    · rw [List.getElem?_append_right (by rw [List.length_map, List.length_take]; omega), List.getElem?_drop]
      congr 1
      rw [List.length_map, List.length_take]
      omega
    · rw [List.getElem?_eq_none (l := es) (by omega)]
      rw [List.getElem?_eq_none (by rw [List.length_append, List.length_map, List.length_take, List.length_drop]; omega)]
theorem cutL_get {s : ByteArray} {es : List Ev} {M i : Nat} (hi : i < es.length) (h : i < (cutL s es M).length) : (cutL s es M)[i] = if i < M then rwS s es[i] else es[i] := by
  have e : (cutL s es M)[i]? = some (if i < M then rwS s es[i] else es[i]) := by
    unfold cutL
    by_cases hM : i < M
    · rw [if_pos hM, List.getElem?_append_left (by rw [List.length_map, List.length_take]; omega), List.getElem?_map, List.getElem?_take, if_pos hM, List.getElem?_eq_getElem hi]
      rfl
    · rw [if_neg hM, List.getElem?_append_right (by rw [List.length_map, List.length_take]; omega), List.getElem?_drop, ← List.getElem?_eq_getElem hi]
      congr 1
      rw [List.length_map, List.length_take]
      omega
  rw [List.getElem?_eq_getElem h] at e
  exact Option.some.inj e
theorem cutL_len {s : ByteArray} {es : List Ev} {M : Nat} : (cutL s es M).length = es.length := by
  unfold cutL
  rw [List.length_append, List.length_map, List.length_take, List.length_drop]
  omega
theorem rwS_gone {s : ByteArray} {x : Ev} (hm : E.mayB x = true) : gone (rwS s x) = pmS s x := by
  cases h : pmS s x with
  | true => rw [rwS_pos hm h]; rfl
  | false => rw [rwS_neg hm h]; exact gone_may hm
theorem rwS_may {s : ByteArray} {x : Ev} (hm : E.mayB x = true) (h : pmS s x = false) : rwS s x = x := rwS_neg hm h
theorem cnt_may {s : ByteArray} {l : List Ev} (h : ∀ x ∈ l, E.mayB x = true) : cnt gone (kpS s) l = l.countP (pmS s) := by
  unfold cnt
  refine List.countP_congr fun x hx => ?_
  unfold drops kpS pmS
  rw [gone_may (h x hx)]
  simp
theorem cnt_rw {s : ByteArray} {l : List Ev} (h : ∀ x ∈ l, E.mayB x = true) : cnt gone (kpS s) (l.map (rwS s)) = 0 := by
  unfold cnt
  rw [List.countP_eq_zero]
  intro y hy
  obtain ⟨x, hx, rfl⟩ := List.mem_map.1 hy
  unfold drops
  rw [rwS_gone (h x hx)]
  cases hp : pmS s x with
  | true => simp
  | false =>
    rw [rwS_may (h x hx) hp]
    unfold kpS
    unfold pmS at hp
    rw [hp]
    simp
theorem rw_rw {s : ByteArray} {x : Ev} (hm : E.mayB x = true) : rwS s (rwS s x) = rwS s x := by
  cases hp : pmS s x with
  | true => rw [rwS_pos hm hp]; rfl
  | false => rw [rwS_may hm hp, rwS_may hm hp]
theorem cutL_map {s : ByteArray} {es : List Ev} (h : ∀ x ∈ es, E.mayB x = true) (M : Nat) : (cutL s es M).map (rwS s) = es.map (rwS s) := by
  unfold cutL
  rw [List.map_append, List.map_map]
  conv => rhs; rw [← List.take_append_drop M es, List.map_append]
  congr 1
  exact List.map_congr_left fun x hx => rw_rw (h x (List.mem_of_mem_take hx))
theorem cutL_ok {s : ByteArray} {es : List Ev} (h : ∀ x ∈ es, E.mayB x = true) (M : Nat) : ∀ x ∈ cutL s es M, OkE x := by
  intro x hx
  unfold cutL at hx
  rcases List.mem_append.1 hx with hx | hx
  · obtain ⟨y, hy, rfl⟩ := List.mem_map.1 hx
    exact rwS_ok (.inr (h y (List.mem_of_mem_take hy)))
  · exact .inr (h x (List.mem_of_mem_drop hx))
theorem own_step {s : ByteArray} {es : List Ev} {i : Nat} (h : i < es.length) : ownL s es (i + 1) = ownL s es i + if pmS s es[i] then 1 else 0 := by
  unfold ownL
  rw [List.take_succ_eq_append_getElem h, List.countP_append, List.countP_singleton]
theorem own_mono {s : ByteArray} {es : List Ev} {i j : Nat} (h : i ≤ j) : ownL s es i ≤ ownL s es j := by
  unfold ownL
  refine List.Sublist.countP_le ?_
  exact List.take_sublist_take_left h
theorem own_top {s : ByteArray} {es : List Ev} {i : Nat} (h : es.length ≤ i) : ownL s es i = es.countP (pmS s) := by
  unfold ownL
  rw [List.take_of_length_le h]
/-- How many of that person are left among the first. -/
def leftL (s : ByteArray) (es : List Ev) (M i : Nat) : Nat := ownL s es i - ownL s es (min i M)
theorem left_step {s : ByteArray} {es : List Ev} {M i : Nat} (h : i < es.length) : leftL s es M (i + 1) = leftL s es M i + if pmS s es[i] = true ∧ M ≤ i then 1 else 0 := by
  unfold leftL
  by_cases hM : M ≤ i
  · rw [Nat.min_eq_right hM, Nat.min_eq_right (by omega), own_step h]
    have := own_mono (s := s) (es := es) hM
    by_cases hp : pmS s es[i] = true
    · rw [if_pos hp, if_pos ⟨hp, hM⟩]; omega
    · rw [if_neg hp, if_neg (fun e => hp e.1)]; omega
  · rw [Nat.min_eq_left (by omega), Nat.min_eq_left (by omega), if_neg (fun e => hM e.2)]
    omega
theorem cnt_cutL {s : ByteArray} {es : List Ev} (h : ∀ x ∈ es, E.mayB x = true) (M : Nat) : cnt gone (kpS s) (cutL s es M) = leftL s es M es.length := by
  unfold cutL leftL
  have e1 : cnt gone (kpS s) ((es.take M).map (rwS s) ++ es.drop M) = cnt gone (kpS s) ((es.take M).map (rwS s)) + cnt gone (kpS s) (es.drop M) := List.countP_append
  rw [e1, cnt_rw (fun x hx => h x (List.mem_of_mem_take hx)), cnt_may (fun x hx => h x (List.mem_of_mem_drop hx)), own_top (Nat.le_refl _)]
  have e2 : ownL s es (min es.length M) = (es.take M).countP (pmS s) := by
    unfold ownL
    congr 1
    rw [List.take_eq_take_iff]
    omega
  have e3 : es.countP (pmS s) = (es.take M).countP (pmS s) + (es.drop M).countP (pmS s) := by
    rw [← List.countP_append, List.take_append_drop]
  rw [e2, e3]
  omega
theorem own_left {s : ByteArray} {es : List Ev} (h : ∀ x ∈ es, E.mayB x = true) (M : Nat) : ownL s es es.length = leftL s es M es.length + cnt gone (kpS s) (es.take M) := by
  unfold leftL
  have e2 : ownL s es (min es.length M) = (es.take M).countP (pmS s) := by
    unfold ownL
    congr 1
    rw [List.take_eq_take_iff]
    omega
  rw [cnt_may (fun x hx => h x (List.mem_of_mem_take hx)), ← e2]
  have := own_mono (s := s) (es := es) (Nat.min_le_left es.length M)
  omega
theorem left_none {s : ByteArray} {es : List Ev} {M : Nat} (h : es.length ≤ M) : leftL s es M es.length = 0 := by
  unfold leftL
  rw [Nat.min_eq_left h]
  omega
theorem cnt_take {s : ByteArray} {es : List Ev} {per m : Nat} : ((List.range m).map fun k => cnt gone (kpS s) (seg es per k)).sum = cnt gone (kpS s) (es.take (m * per)) := by
  rw [← segs_take, cnt_flat, List.map_map]
  rfl
theorem read_one {es : List Ev} {i : Nat} (h : i < es.length) : rdE es i 1 = (if gone es[i] then [] else [es[i]]) ∧ rdO es i 1 = if gone es[i] then [] else [i] := by
  have := rd_step (es := es) (fr := i) (k := 0) (by omega)
  simp only [Nat.add_zero, Nat.zero_add] at this
  rw [this.1, this.2]
  constructor
  · show rdE es i 0 ++ _ = _
    rw [show rdE es i 0 = [] by unfold rdE; simp]; simp
  · rw [show rdO es i 0 = [] by unfold rdO; simp]; simp
/-- What is read where a person's are erased. -/
theorem read_rw {s : ByteArray} {es : List Ev} (h : ∀ x ∈ es, E.mayB x = true) : rdE (es.map (rwS s)) 0 es.length = es.filter fun e => !pmS s e := by
  unfold rdE
  rw [List.drop_zero, List.take_of_length_le (by rw [List.length_map]; exact Nat.le_refl _)]
  induction es with
  | nil => rfl
  | cons x r ih =>
    have hx := h x (by simp)
    have ih := ih (fun y hy => h y (by simp [hy]))
    rw [List.map_cons, List.filter_cons, List.filter_cons, rwS_gone hx, ih]
    cases hp : pmS s x with
    | true => simp
    | false => simp [rwS_may hx hp]
theorem filt_own {s : ByteArray} {es : List Ev} : (es.filter fun e => !pmS s e).length + ownL s es es.length = es.length := by
  rw [own_top (Nat.le_refl _)]
  induction es with
  | nil => rfl
  | cons x r ih =>
    rw [List.filter_cons, List.countP_cons]
    cases hp : pmS s x with
    | true => simp; omega
    | false => simp; omega
theorem one_cells {w : World} {base : Nat} {v : Value} {e : Ev} (h : EvRow w base v [e]) : ∃ g cap, v = .slice (some ⟨g, 0, none⟩) 1 cap ∧ g < w.heap.size ∧ w.cell? ⟨g, 0, none⟩ = some (.string e.s) ∧ w.cell? ⟨g, 1, none⟩ = some (.int .i64 e.n) ∧ w.cell? ⟨g, 2, none⟩ = some (.int .i64 e.a) ∧ w.cell? ⟨g, 3, none⟩ = some (.int .i64 e.k) ∧ w.cell? ⟨g, 4, none⟩ = some (.string e.p) ∧ w.cell? ⟨g, 5, none⟩ = some (.string e.i) ∧ w.cell? ⟨g, 6, none⟩ = some (.int .i64 e.v) ∧ w.cell? ⟨g, 7, none⟩ = some (.string e.t) := by
  have hh := h
  rcases h.2 with ⟨_, h0⟩ | ⟨g, cap, cur, hv, _, hg, _⟩
  · cases h0
  · subst hv
    refine ⟨g, cap, rfl, lt_of_block hg, ?_⟩
    have c : ∀ (j : Nat) u, (evsL [e])[j]? = some u → w.cell? ⟨g, j, none⟩ = some u := fun j u hu => by
      have := World.ownsRow.cells hh rfl j u hu
      rw [Addr.add_mid, Nat.zero_add] at this
      exact this
    exact ⟨c 0 _ rfl, c 1 _ rfl, c 2 _ rfl, c 3 _ rfl, c 4 _ rfl, c 5 _ rfl, c 6 _ rfl, c 7 _ rfl⟩
end Go.Proofs.YtghnbkkfghfifaaGreatDoor
