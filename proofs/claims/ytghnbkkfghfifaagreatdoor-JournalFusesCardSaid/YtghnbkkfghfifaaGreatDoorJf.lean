/- One event more. -/
import Derived.Test.YtghnbkkfghfifaaGreatDoorJe
import Derived.Deep.AppendLies
import Derived.Deep.RegionLaw
namespace Go.Proofs.YtghnbkkfghfifaaGreatDoor
open Go.RowKit Go.Maps D
open F (frameL frameL_len)
set_option linter.unusedVariables false
theorem info52_parts : ∃ i, Tryz.prog.info? 52 = some i ∧ i.zero = some (.agg #[.string ⟨#[]⟩, .int .i64 0, .int .i64 0, .int .i64 0, .string ⟨#[]⟩, .string ⟨#[]⟩, .int .i64 0, .string ⟨#[]⟩]) ∧ i.size = 8 ∧ i.bytes = 96 := info_parts info52
section
variable {w w3 : World} {F G : Nat → Prop} {d l : Nat} {n : List UInt8} {per : Nat} {v : Value} {j : Jn Ev}
theorem LogM.mono (h : LogM w F d l n per v j) (hFG : ∀ i, F i → i < w.heap.size → G i) (h7 : ∀ i, G i → 7 ≤ i) : LogM w G d l n per v j :=
  ⟨h.self, h.row, h.disk.mono hFG, hFG _ h.fl h.self.lt, fun g hg => hFG _ (h.fg g hg) (h.glt hg), h.lay, h7, h.name, h.per1, h.small⟩
/-- An entry more, in memory. -/
theorem LogM.push (h : LogM w F d l n per v j) (hF : ∀ i, w.heap.size ≤ i → F i) (x : Ev) {g cap2 : Nat} (hz : j.es.length + 1 ≤ 1048576) (hown : w3.ownsRow 0 52 8 (.slice (some ⟨g, 0, none⟩) (j.es.length + 1) cap2) (j.es.length + 1) (evsL j.es ++ evL x))
    (hgr : (w.alloc (.cells #[.string x.s, .int .i64 x.n, .int .i64 x.a, .int .i64 x.k, .string x.p, .string x.i, .int .i64 x.v, .string x.t] 52)).grownBy w3 v.ownBlock) (hg : v.ownBlock = some g ∨ g = (w.alloc (.cells #[.string x.s, .int .i64 x.n, .int .i64 x.a, .int .i64 x.k, .string x.p, .string x.i, .int .i64 x.v, .string x.t] 52)).heap.size) :
    Blk w3 l [.pointer (some ⟨d, 0, none⟩), .string (bs n), .int .i64 (per : Int), .int .i64 (j.files : Int), v, .int .i64 (j.lasts : Int), .int .i64 (j.stuck : Int)] 98 ∧
    LogM (w3.setCell ⟨l, 4, none⟩ (.slice (some ⟨g, 0, none⟩) (j.es.length + 1) cap2)) F d l n per (.slice (some ⟨g, 0, none⟩) (j.es.length + 1) cap2) ⟨j.dk, j.files, j.es ++ [x], j.lasts, j.stuck⟩ ∧ Kept F w (w3.setCell ⟨l, 4, none⟩ (.slice (some ⟨g, 0, none⟩) (j.es.length + 1) cap2)) := by
  have hA := h.alloc (.cells #[.string x.s, .int .i64 x.n, .int .i64 x.a, .int .i64 x.k, .string x.p, .string x.i, .int .i64 x.v, .string x.t] 52)
  have hr : EvRow w3 0 (.slice (some ⟨g, 0, none⟩) (j.es.length + 1) cap2) (j.es ++ [x]) := by
    unfold EvRow
    rw [List.length_append, List.length_singleton, evsL_app, evsL_one']
    exact hown
  have := hA.row' hgr hr (fun g' hg' => by
    cases hg'
    rcases hg with hg | hg
    · exact h.fg _ hg
    · exact hF _ (by show w.heap.size ≤ g; rw [hg, World.size_alloc]; omega)) (by simpa using hz)
  refine ⟨hA.self.kept hgr (fun e => ev_ne hA.row hA.self (by decide) e.symm), this.1, ?_⟩
  exact ((Kept.refl F w).alloc _).trans this.2
theorem news_of {w : World} (x : Ev) (b : Nat) (hb : w.heap.size = b) : ∀ j u, (evL x)[j]? = some u → (w.alloc (.cells #[.string x.s, .int .i64 x.n, .int .i64 x.a, .int .i64 x.k, .string x.p, .string x.i, .int .i64 x.v, .string x.t] 52)).cell? ((⟨b, 0, none⟩ : Addr).add j) = some u := fun j u hu => by
  subst hb
  rw [Addr.add_mid, Nat.zero_add]
  exact (Blk.new w (evL x) 52).c j hu
end
/-- What stands by at an Append: the journal's disk, the event's box. -/
structure AddB (w : World) (l xb d : Nat) (x : Ev) : Prop where
  p : ∃ cs, Blk w l (.pointer (some ⟨d, 0, none⟩) :: cs) 98
  b : Blk w xb (evL x) 52
theorem AddB.alloc {w : World} {l xb d : Nat} {x : Ev} (h : AddB w l xb d x) (o : Obj) : AddB (w.alloc o) l xb d x := ⟨by obtain ⟨cs, hc⟩ := h.p; exact ⟨cs, hc.alloc o⟩, h.b.alloc o⟩
theorem AddB.drew {w : World} {l xb d : Nat} {x : Ev} (h : AddB w l xb d x) : AddB w.drew l xb d x := ⟨h.p, h.b⟩
theorem AddB.below {w w' : World} {l xb d : Nat} {x : Ev} (h : AddB w l xb d x) (hb : Below w.heap.size w w') : AddB w' l xb d x := ⟨by obtain ⟨cs, hc⟩ := h.p; exact ⟨cs, hc.below hb hc.lt⟩, h.b.below hb h.b.lt⟩
theorem AddB.kept {w w' : World} {F : Nat → Prop} {l xb d : Nat} {x : Ev} (h : AddB w l xb d x) (hk : Kept (fun i => F i ∧ i ≠ xb) w w') {n : List UInt8} {per : Nat} {v : Value} {j : Jn Ev} (hm : LogM w' (fun i => F i ∧ i ≠ xb) d l n per v j) : AddB w' l xb d x := ⟨⟨_, hm.self⟩, h.b.keptF hk (fun e => e.2 rfl)⟩
theorem AddB.out {w : World} {l xb d : Nat} {x : Ev} (h : AddB w l xb d x) : (w.cell? ⟨l, 0, none⟩ = some (.pointer (some ⟨d, 0, none⟩)) ∧ w.cell? ⟨xb, 0, none⟩ = some (.string x.s) ∧ w.cell? ⟨xb, 1, none⟩ = some (.int .i64 x.n) ∧ w.cell? ⟨xb, 2, none⟩ = some (.int .i64 x.a) ∧ w.cell? ⟨xb, 3, none⟩ = some (.int .i64 x.k) ∧ w.cell? ⟨xb, 4, none⟩ = some (.string x.p) ∧ w.cell? ⟨xb, 5, none⟩ = some (.string x.i) ∧ w.cell? ⟨xb, 6, none⟩ = some (.int .i64 x.v) ∧ w.cell? ⟨xb, 7, none⟩ = some (.string x.t)) ∧ AddB w l xb d x := by
  obtain ⟨cs, hc⟩ := h.p
  exact ⟨⟨hc.c 0 rfl, h.b.c 0 rfl, h.b.c 1 rfl, h.b.c 2 rfl, h.b.c 3 rfl, h.b.c 4 rfl, h.b.c 5 rfl, h.b.c 6 rfl, h.b.c 7 rfl⟩, h⟩
theorem Kept.bel {F : Nat → Prop} {a b c : World} (h : Kept F a b) (k : Below b.heap.size b c) : Kept F a c := h.of_below k (fun i hi _ => Nat.lt_of_lt_of_le hi h.size)
theorem lit_evs (x : Ev) (W : World) : E.Evs (W.alloc (.cells #[.string x.s, .int .i64 x.n, .int .i64 x.a, .int .i64 x.k, .string x.p, .string x.i, .int .i64 x.v, .string x.t] 52)) (W.alloc (.cells #[.string x.s, .int .i64 x.n, .int .i64 x.a, .int .i64 x.k, .string x.p, .string x.i, .int .i64 x.v, .string x.t] 52)).heap.size (.slice (some ⟨W.heap.size, 0, none⟩) 1 1) [x] :=
  evs_of rfl (Nat.le_refl _) (fun _ => by simp) (fun j u hu => news_of x _ rfl j u (by rw [evsL_one'] at hu; exact hu))
theorem lit_evs2 (x : Ev) {W wa : World} (hb : Below (W.alloc (.cells #[.string x.s, .int .i64 x.n, .int .i64 x.a, .int .i64 x.k, .string x.p, .string x.i, .int .i64 x.v, .string x.t] 52)).drew.heap.size (W.alloc (.cells #[.string x.s, .int .i64 x.n, .int .i64 x.a, .int .i64 x.k, .string x.p, .string x.i, .int .i64 x.v, .string x.t] 52)).drew wa) : E.Evs wa wa.heap.size (.slice (some ⟨W.heap.size, 0, none⟩) 1 1) [x] := by
  have h1 := (E.Evs.below (lit_evs x W) (w' := wa) ⟨hb.os, hb.tape, hb.output, hb.size, hb.block⟩ (Nat.le_refl _))
  refine evs_of rfl (Nat.le_refl _) (fun _ => ?_) (fun j u hu => evs_cells h1 j u hu)
  have h2 := hb.size
  have h3 : (W.alloc (.cells #[.string x.s, .int .i64 x.n, .int .i64 x.a, .int .i64 x.k, .string x.p, .string x.i, .int .i64 x.v, .string x.t] 52)).drew.heap.size = W.heap.size + 1 := World.size_alloc _ _
  show W.heap.size < wa.heap.size
  omega
section
variable {w : World} {F : Nat → Prop} {d l : Nat} {n : List UInt8} {per : Nat} {v : Value} {j : Jn Ev}
set_option maxRecDepth 100000 in
set_option maxHeartbeats 4000000 in
theorem add_go (hF : ∀ i, w.heap.size ≤ i → F i) (h : LogM w F d l n per v j) (x : Ev) (hx : E.mayB x = true) (hz : j.es.length + 1 ≤ 1048576) (hR : j.es.length % per ≠ 0) :
    Calls Tryz.prog 66 #[.pointer (some ⟨l, 0, none⟩), evV x] w fun e w' => ∃ v', e = .returned (.int .i64 ((jput pay n per x j).2 : Int)) ∧ LogM w' F d l n per v' (jput pay n per x j).1 ∧ Kept F w w' := by
  obtain ⟨hp1, hp2⟩ := h.per1
  have hsm := h.small
  have hlay := h.lay
  have hnm := h.name
  obtain ⟨q, cap, hv⟩ := h.row.len
  have HJ : Hid (jput pay n per x j = if appendE j.dk (fileN n (j.es.length / per)) (frameL (pay x)) ≠ 0 then (⟨appendD j.dk (fileN n (j.es.length / per)) (frameL (pay x)), j.files, j.es, j.lasts, appendE j.dk (fileN n (j.es.length / per)) (frameL (pay x))⟩, appendE j.dk (fileN n (j.es.length / per)) (frameL (pay x))) else (⟨appendD j.dk (fileN n (j.es.length / per)) (frameL (pay x)), j.es.length / per + 1, j.es ++ [x], j.lasts, 0⟩, 0)) := Lib.hid rfl
  obtain ⟨K, hK⟩ : ∃ K, j.es.length / per = K := ⟨_, rfl⟩
  have hKle : K ≤ 1048575 := by rw [← hK]; exact Nat.le_trans (Nat.div_le_self _ _) (by omega)
  obtain ⟨R, hRe⟩ : ∃ R, j.es.length % per = R := ⟨_, rfl⟩
  have r1 : ((j.es.length : Int)).tmod (per : Int) = (R : Int) := by rw [← hRe]; exact (Int.ofNat_tmod _ _).symm
  have r2 : ((j.es.length : Int)).tdiv (per : Int) = (K : Int) := by rw [← hK]; exact (Int.ofNat_tdiv _ _).symm
  rw [hRe] at hR
  rw [hK] at HJ
  obtain ⟨L, hL⟩ : ∃ L, j.es.length = L := ⟨_, rfl⟩
  rw [hL] at hv r1 r2
  have e1 : ¬ (R : Int) = 0 := by omega
  have r3 : wrap64 (K : Int) = (K : Int) := by unfold wrap64; omega
  have p1 : ¬ per = 0 := by omega
  have p2 : ((per : Int) == 0) = false := by simp; omega
  have HV1 := Lib.hid hv
  obtain ⟨b0, hb0⟩ : ∃ b, w.heap.size = b := ⟨_, rfl⟩
  have h2 : LogM w (fun i => F i ∧ i ≠ b0) d l n per v j := h.mono (fun i hi hs => ⟨hi, by omega⟩) (fun i hi => h.seven i hi.1)
  have hm1 := h2.alloc (.cells #[.string x.s, .int .i64 x.n, .int .i64 x.a, .int .i64 x.k, .string x.p, .string x.i, .int .i64 x.v, .string x.t] 52)
  have ha1 : AddB (w.alloc (.cells #[.string x.s, .int .i64 x.n, .int .i64 x.a, .int .i64 x.k, .string x.p, .string x.i, .int .i64 x.v, .string x.t] 52)) l b0 d x := ⟨⟨_, hm1.self⟩, by rw [← hb0]; exact Blk.new w (evL x) 52⟩
  have hF2 : ∀ i, (w.alloc (.cells #[.string x.s, .int .i64 x.n, .int .i64 x.a, .int .i64 x.k, .string x.p, .string x.i, .int .i64 x.v, .string x.t] 52)).heap.size ≤ i → (fun i => F i ∧ i ≠ b0) i := fun i hi => by
    rw [World.size_alloc] at hi
    exact ⟨hF i (by omega), by omega⟩
  have HKW : Hid (∀ u, Kept (fun i => F i ∧ i ≠ b0) (w.alloc (.cells #[.string x.s, .int .i64 x.n, .int .i64 x.a, .int .i64 x.k, .string x.p, .string x.i, .int .i64 x.v, .string x.t] 52)) u → Kept F w u) := Lib.hid (fun u hu => ((Kept.refl F w).alloc _).trans (hu.mono (fun i hi => hi.1)))
  have HOK : Hid (∀ e ∈ [x], OkE e) := Lib.hid (by intro e he; rw [List.mem_singleton.1 he]; exact .inr hx)
  have HKS : Hid (K ≤ 9223372036854775807) := Lib.hid (Nat.le_trans hKle (by decide))
  have HFS : Hid ((fileN n K).length ≤ 1000000) := Lib.hid (fileN_short hnm (Nat.le_trans hKle (by decide)))
  have HFL : Hid ((frameL (pay x)).length ≤ 10000000) := Lib.hid (by rw [frameL_len]; have := pay_short (.inr hx : OkE x); omega)
  have HHF := Lib.hid hF
  have HS7 := Lib.hid h.seven
  have HB0 := Lib.hid hb0
  have HL := Lib.hid hL
  have HZ := Lib.hid hz
  have HKL := Lib.hid hKle
  clear hK hRe hsm hlay hnm hv h h2 hx hz hL hKle
  go_enter Tryz.func66, Tryz.ntmps66
  go_wp2_with fail
  try rw [hb0]
  clear hb0
  revert hm1 ha1 hF2 HKW
  generalize hw1 : w.alloc (.cells #[.string x.s, .int .i64 x.n, .int .i64 x.a, .int .i64 x.k, .string x.p, .string x.i, .int .i64 x.v, .string x.t] 52) = w1
  intro hm1 ha1 hF2 HKW
  have c2 := hm1.self.c 2 rfl
  have c4 := hm1.self.c 4 rfl
  rw [HV1.out] at c4
  have HM0 := Lib.hid hm1
  have HA0 := Lib.hid ha1
  have HF2 := Lib.hid hF2
  clear hm1 ha1 hF2 hw1
  go_quiet (fail)
  have hm2 := HM0.out.drewN nq
  have ha2 : AddB (w1.drewN nq) l b0 d x := HA0.out.below (E.below_drewN (Below.refl _ w1) nq)
  have hk2 : Kept (fun i => F i ∧ i ≠ b0) w1 (w1.drewN nq) := (Kept.refl _ w1).drewN nq
  clear c2 c4 HM0 HA0
  revert hm2 ha2 hk2
  generalize w1.drewN nq = wt
  intro hm2 ha2 hk2
  have HM := Lib.hid hm2
  have HA := Lib.hid ha2
  have HK := Lib.hid hk2
  clear hm2 ha2 hk2
  -- the tail
  have c2 := HM.out.self.c 2 rfl
  have c4 := HM.out.self.c 4 rfl
  rw [HV1.out] at c4
  go_wp2_with fail
  go_quiet (fail)
  have hm2 := HM.out.drewN nq
  have ha2 : AddB (wt.drewN nq) l b0 d x := HA.out.below (E.below_drewN (Below.refl _ wt) nq)
  have hk2 : Kept (fun i => F i ∧ i ≠ b0) w1 (wt.drewN nq) := HK.out.drewN nq
  clear c2 c4 HM HA HK
  revert hm2 ha2 hk2
  generalize wt.drewN nq = wq
  intro hm2 ha2 hk2
  have HM := Lib.hid hm2
  have HA := Lib.hid ha2
  have HK := Lib.hid hk2
  have HSZ : Hid (w1.heap.size ≤ wq.heap.size) := Lib.hid hk2.size
  obtain ⟨⟨p0, x0, x1, x2, x3, x4, x5, x6, x7⟩, _⟩ := ha2.out
  clear hm2 ha2 hk2
  go_upto_region 6 with fail
  go_region_held3 (fun w' => (w'.cell? ⟨l, 0, none⟩ = some (.pointer (some ⟨d, 0, none⟩)) ∧ w'.cell? ⟨b0, 0, none⟩ = some (.string x.s) ∧ w'.cell? ⟨b0, 1, none⟩ = some (.int .i64 x.n) ∧ w'.cell? ⟨b0, 2, none⟩ = some (.int .i64 x.a) ∧ w'.cell? ⟨b0, 3, none⟩ = some (.int .i64 x.k) ∧ w'.cell? ⟨b0, 4, none⟩ = some (.string x.p) ∧ w'.cell? ⟨b0, 5, none⟩ = some (.string x.i) ∧ w'.cell? ⟨b0, 6, none⟩ = some (.int .i64 x.v) ∧ w'.cell? ⟨b0, 7, none⟩ = some (.string x.t)) ∧ AddB w' l b0 d x)
    ((refine AddB.out ?_; with_reducible (repeat (first | exact HA.out | assumption | refine AddB.drew ?_ | refine AddB.alloc ?_ _ | refine AddB.below ?_ (by assumption)))))
    (first | (go_at_call 82; refine (file_any (F := (fun i => F i ∧ i ≠ b0)) (d := d) (n := n) (per := per) (v := v) (j := j) (by with_reducible (repeat (first | exact HM.out | refine LogM.drew ?_ | refine LogM.alloc ?_ _ | refine LogM.below ?_ (by assumption)))) K HKS.out).mono ?_; rintro e wa ⟨rfl, hba⟩) | (go_at_call 90; refine (frames_any _ [x] HOK.out (show 1 ≤ 100000 by decide) _ (by first | exact lit_evs x _ | exact lit_evs2 x (by assumption)) (LogM.lay (F := (fun i => F i ∧ i ≠ b0)) (d := d) (l := l) (n := n) (per := per) (v := v) (j := j) (by with_reducible (repeat (first | exact HM.out | refine LogM.drew ?_ | refine LogM.alloc ?_ _ | refine LogM.below ?_ (by assumption)))))).mono ?_; rintro e wb ⟨u, rfl, hu, hbb⟩; rw [byt_one] at hu) | (go_at_call 89; refine (D.append_any (F := Foot (fun i => F i ∧ i ≠ b0) l v) (LogM.free (d := d) (n := n) (per := per) (j := j) (by with_reducible (repeat (first | exact HM.out | refine LogM.drew ?_ | refine LogM.alloc ?_ _ | refine LogM.below ?_ (by assumption)))) (fun i hi => HF2.out i (Nat.le_trans (Kept.size (F := (fun i => F i ∧ i ≠ b0)) (w := w1) (by with_reducible (repeat (first | exact HK.out | refine Kept.drew ?_ | refine Kept.alloc ?_ _ | refine Kept.bel ?_ (by assumption))))) hi))) (LogM.sep (F := (fun i => F i ∧ i ≠ b0)) (d := d) (l := l) (n := n) (per := per) (v := v) (j := j) (by with_reducible (repeat (first | exact HM.out | refine LogM.drew ?_ | refine LogM.alloc ?_ _ | refine LogM.below ?_ (by assumption))))) (fileN n K) HFS.out _ (frameL (pay x)) _ (by refine Seen.own (base := 0) ?_; with_reducible (repeat (first | exact (OwnB.mono (by assumption) (Nat.zero_le _)) | refine OwnB.drew ?_ | refine OwnB.alloc ?_ _ | refine OwnB.below ?_ (by assumption) (Nat.le_refl _)))) (Nat.le_refl _) HFL.out).mono ?_; rintro e wc ⟨rfl, hdc, hkc⟩; have HMC := Lib.hid (LogM.turn (F := (fun i => F i ∧ i ≠ b0)) (n := n) (per := per) (v := v) (j := j) (by with_reducible (repeat (first | exact HM.out | refine LogM.drew ?_ | refine LogM.alloc ?_ _ | refine LogM.below ?_ (by assumption)))) hdc hkc); have HKC : Hid (Kept (fun i => F i ∧ i ≠ b0) w1 wc) := Lib.hid (Kept.trans (by with_reducible (repeat (first | exact HK.out | refine Kept.drew ?_ | refine Kept.alloc ?_ _ | refine Kept.bel ?_ (by assumption)))) HMC.out.2); have HAC : AddB wc l b0 d x := AddB.kept (by with_reducible (repeat (first | exact HA.out | assumption | refine AddB.drew ?_ | refine AddB.alloc ?_ _ | refine AddB.below ?_ (by assumption)))) HMC.out.2 HMC.out.1; clear hdc hkc) | (go_at_call 57; refine (told_any HMC.out.1 _).mono ?_; rintro e wd ⟨rfl, hmd, hkd⟩; have HMD := Lib.hid hmd; have HKD := Lib.hid (HKC.out.trans hkd); have HAD : AddB wd l b0 d x := HAC.kept hkd hmd; clear hmd hkd))
  all_goals
    clear p0 x0 x1 x2 x3 x4 x5 x6 x7 HM HA HK HMC HKC HAC HSZ
    have HMDX := HMD
    have HADX := Lib.hid HAD
    clear HAD
    obtain ⟨E, hE⟩ : ∃ E, appendE j.dk (fileN n K) (frameL (pay x)) = E := ⟨_, rfl⟩
    rw [hE] at HMD HJ ⊢
    have HE := Lib.hid hE
    clear hE HMDX
    by_cases hz : E = 0
    · subst hz
      have HJ2 := Lib.hid ((HJ.out).trans (if_neg (by simp)))
      have c3 := HMD.out.self.c 3 rfl
      have f3 := HMD.out.self.f 3
      have hm9 := HMD.out.files (K + 1) (by have := HKL.out; omega)
      rw [show ((K + 1 : Nat) : Int) = (K : Int) + 1 from rfl] at hm9
      have ha9 : AddB (wd.setCell ⟨l, 3, none⟩ (.int .i64 ((K : Int) + 1))) l b0 d x := AddB.kept HADX.out hm9.2 hm9.1
      have hk9 := HKD.out.trans hm9.2
      have hs9 : w1.heap.size ≤ (wd.setCell ⟨l, 3, none⟩ (.int .i64 ((K : Int) + 1))).heap.size := hk9.size
      have k1 : wrap64 ((K : Int) + 1) = (K : Int) + 1 := by have := HKL.out; unfold wrap64; omega
      clear HMD HADX HJ HKD
      have hm9 := hm9.1
      go_wp2_with fail
      revert hm9 ha9 hk9 hs9
      generalize wd.setCell ⟨l, 3, none⟩ (.int .i64 ((K : Int) + 1)) = w9
      intro ha9 hk9 hs9 hm9
      obtain ⟨⟨p0, x0, x1, x2, x3, x4, x5, x6, x7⟩, _⟩ := ha9.out
      have c4 := hm9.self.c 4 rfl
      have f4 := hm9.self.f 4
      rw [HV1.out] at c4
      have o2 : (w9.alloc (.cells #[.string x.s, .int .i64 x.n, .int .i64 x.a, .int .i64 x.k, .string x.p, .string x.i, .int .i64 x.v, .string x.t] 52)).drew.cell? ⟨l, 4, none⟩ = some (.slice q L cap) := by
        have := ((hm9.drew).alloc (.cells #[.string x.s, .int .i64 x.n, .int .i64 x.a, .int .i64 x.k, .string x.p, .string x.i, .int .i64 x.v, .string x.t] 52)).self.c 4 rfl
        rw [HV1.out] at this
        exact this
      have HD := Lib.hid hm9.drew
      have HK9 := Lib.hid hk9
      have HF9 : Hid (∀ i, w9.drew.heap.size ≤ i → F i ∧ i ≠ b0) := Lib.hid (fun i hi => HF2.out i (Nat.le_trans hs9 hi))
      have HL6 : Hid (L ≤ 1048576) := Lib.hid (by have := HZ.out; rw [HL.out] at this; omega)
      clear hm9 ha9 hk9 hs9 c3 f3
      obtain ⟨i0, hi0, hz0, hz1, hz2⟩ := info52_parts
      go_region_law (refine step_append_lies _ rfl (.tmp 59) (.tmp 61) 62 rfl 0 52 i0 _ 8 96 Tryz.underlying62 hi0 hz0 hz1 hz2 rfl (by decide) (.slice q L cap) L (evsL j.es) rfl (by have h1 := (HD.out.alloc (.cells #[.string x.s, .int .i64 x.n, .int .i64 x.a, .int .i64 x.k, .string x.p, .string x.i, .int .i64 x.v, .string x.t] 52)).row; unfold EvRow at h1; rw [HL.out] at h1; rw [HV1.out] at h1; exact h1) ⟨w9.heap.size, 0, none⟩ 1 1 (evL x) rfl rfl (news_of (w := w9.drew) x w9.heap.size rfl) (evL_one x) (by decide) (by have := HL6.out; unfold maxLen; omega) (by have := HL6.out; omega) (Nat.zero_le _) _ rfl ?_; intro g cap2 w10 hown hgr hat hlt3; rw [← HL.out] at hown; rw [← HV1.out] at hgr hat; obtain ⟨p1, p2, p3⟩ := HD.out.push HF9.out x HZ.out hown hgr hat; rw [HL.out] at p2 p3; have q3 := p1.c 4 rfl; rw [HV1.out] at q3; have g3 := p1.f 4; have HO3 := Lib.hid p2; have HB3 := Lib.hid p3; clear p1 p2 p3 hown hgr hat)
      all_goals (go_wp2_with fail)
      all_goals go_ret
      all_goals
        rw [HJ2.out]
        refine ⟨rfl, ⟨_, HO3.out.mono (fun i hi _ => hi.1) HS7.out⟩, HKW.out _ (Kept.trans HK9.out.drew HB3.out)⟩
    · have HJ2 := Lib.hid ((HJ.out).trans (if_pos hz))
      have hz1 : ¬ (E : Int) = 0 := by omega
      clear hz HJ HADX
      go_wp2_with fail
      go_ret
      rw [HJ2.out]
      exact ⟨_, rfl, HMD.out.mono (fun i hi _ => hi.1) HS7.out, HKW.out _ HKD.out⟩
theorem jsync_es (n : List UInt8) (j : Jn Ev) : (jsync n j).1.es = j.es ∧ (jsync n j).1.files = j.files := by
  unfold jsync
  split
  · exact ⟨rfl, rfl⟩
  · split <;> exact ⟨rfl, rfl⟩
set_option maxRecDepth 100000 in
set_option maxHeartbeats 4000000 in
theorem add_sync (hF : ∀ i, w.heap.size ≤ i → F i) (h : LogM w F d l n per v j) (x : Ev) (hx : E.mayB x = true) (hz : j.es.length + 1 ≤ 1048576) (hR : j.es.length % per = 0) :
    Calls Tryz.prog 66 #[.pointer (some ⟨l, 0, none⟩), evV x] w fun e w' => ∃ v', e = .returned (.int .i64 ((jadd pay n per x j).2 : Int)) ∧ LogM w' F d l n per v' (jadd pay n per x j).1 ∧ Kept F w w' := by
  obtain ⟨hp1, hp2⟩ := h.per1
  have hsm := h.small
  have hlay := h.lay
  have hnm := h.name
  obtain ⟨q, cap, hv⟩ := h.row.len
  have HJA : Hid (jadd pay n per x j = if (jsync n j).2 ≠ 0 then jsync n j else jput pay n per x (jsync n j).1) := Lib.hid (by unfold jadd; rw [if_pos hR])
  obtain ⟨j1, hj1⟩ : ∃ j1, (jsync n j).1 = j1 := ⟨_, rfl⟩
  obtain ⟨E1, hE1⟩ : ∃ E1, (jsync n j).2 = E1 := ⟨_, rfl⟩
  have hes : j1.es = j.es := by rw [← hj1]; exact (jsync_es n j).1
  have HJS : Hid (jsync n j = (j1, E1)) := Lib.hid (Prod.ext hj1 hE1)
  rw [hE1, hj1] at HJA
  have HJ : Hid (jput pay n per x j1 = if appendE j1.dk (fileN n (j.es.length / per)) (frameL (pay x)) ≠ 0 then (⟨appendD j1.dk (fileN n (j.es.length / per)) (frameL (pay x)), j1.files, j1.es, j1.lasts, appendE j1.dk (fileN n (j.es.length / per)) (frameL (pay x))⟩, appendE j1.dk (fileN n (j.es.length / per)) (frameL (pay x))) else (⟨appendD j1.dk (fileN n (j.es.length / per)) (frameL (pay x)), j.es.length / per + 1, j1.es ++ [x], j1.lasts, 0⟩, 0)) := Lib.hid (by unfold jput; rw [hes])
  clear hj1 hE1
  obtain ⟨K, hK⟩ : ∃ K, j.es.length / per = K := ⟨_, rfl⟩
  have hKle : K ≤ 1048575 := by rw [← hK]; exact Nat.le_trans (Nat.div_le_self _ _) (by omega)
  have r1 : ((j.es.length : Int)).tmod (per : Int) = 0 := by
    have := (Int.ofNat_tmod j.es.length per).symm
    rw [hR] at this
    exact this
  have r2 : ((j.es.length : Int)).tdiv (per : Int) = (K : Int) := by rw [← hK]; exact (Int.ofNat_tdiv _ _).symm
  rw [hK] at HJ
  obtain ⟨L, hL⟩ : ∃ L, j.es.length = L := ⟨_, rfl⟩
  rw [hL] at hv r1 r2
  have r3 : wrap64 (K : Int) = (K : Int) := by unfold wrap64; omega
  have p1 : ¬ per = 0 := by omega
  have p2 : ((per : Int) == 0) = false := by simp; omega
  have HV1 := Lib.hid hv
  obtain ⟨b0, hb0⟩ : ∃ b, w.heap.size = b := ⟨_, rfl⟩
  have h2 : LogM w (fun i => F i ∧ i ≠ b0) d l n per v j := h.mono (fun i hi hs => ⟨hi, by omega⟩) (fun i hi => h.seven i hi.1)
  have hm1 := h2.alloc (.cells #[.string x.s, .int .i64 x.n, .int .i64 x.a, .int .i64 x.k, .string x.p, .string x.i, .int .i64 x.v, .string x.t] 52)
  have ha1 : AddB (w.alloc (.cells #[.string x.s, .int .i64 x.n, .int .i64 x.a, .int .i64 x.k, .string x.p, .string x.i, .int .i64 x.v, .string x.t] 52)) l b0 d x := ⟨⟨_, hm1.self⟩, by rw [← hb0]; exact Blk.new w (evL x) 52⟩
  have hF2 : ∀ i, (w.alloc (.cells #[.string x.s, .int .i64 x.n, .int .i64 x.a, .int .i64 x.k, .string x.p, .string x.i, .int .i64 x.v, .string x.t] 52)).heap.size ≤ i → (fun i => F i ∧ i ≠ b0) i := fun i hi => by
    rw [World.size_alloc] at hi
    exact ⟨hF i (by omega), by omega⟩
  have HKW : Hid (∀ u, Kept (fun i => F i ∧ i ≠ b0) (w.alloc (.cells #[.string x.s, .int .i64 x.n, .int .i64 x.a, .int .i64 x.k, .string x.p, .string x.i, .int .i64 x.v, .string x.t] 52)) u → Kept F w u) := Lib.hid (fun u hu => ((Kept.refl F w).alloc _).trans (hu.mono (fun i hi => hi.1)))
  have HOK : Hid (∀ e ∈ [x], OkE e) := Lib.hid (by intro e he; rw [List.mem_singleton.1 he]; exact .inr hx)
  have HKS : Hid (K ≤ 9223372036854775807) := Lib.hid (Nat.le_trans hKle (by decide))
  have HFS : Hid ((fileN n K).length ≤ 1000000) := Lib.hid (fileN_short hnm (Nat.le_trans hKle (by decide)))
  have HFL : Hid ((frameL (pay x)).length ≤ 10000000) := Lib.hid (by rw [frameL_len]; have := pay_short (.inr hx : OkE x); omega)
  have HHF := Lib.hid hF
  have HS7 := Lib.hid h.seven
  have HB0 := Lib.hid hb0
  have HL : Hid (j1.es.length = L) := Lib.hid (by rw [hes]; exact hL)
  have HZ : Hid (j1.es.length + 1 ≤ 1048576) := Lib.hid (by rw [hes]; exact hz)
  have HKL := Lib.hid hKle
  clear hK hsm hlay hnm hv h h2 hx hz hL hKle hes hR
  go_enter Tryz.func66, Tryz.ntmps66
  go_wp2_with fail
  try rw [hb0]
  clear hb0
  revert hm1 ha1 hF2 HKW
  generalize hw1 : w.alloc (.cells #[.string x.s, .int .i64 x.n, .int .i64 x.a, .int .i64 x.k, .string x.p, .string x.i, .int .i64 x.v, .string x.t] 52) = w1
  intro hm1 ha1 hF2 HKW
  have c2 := hm1.self.c 2 rfl
  have c4 := hm1.self.c 4 rfl
  rw [HV1.out] at c4
  have HM0 := Lib.hid hm1
  have HA0 := Lib.hid ha1
  have HF2 := Lib.hid hF2
  clear hm1 ha1 hF2 hw1
  go_quiet (fail)
  have hm2 := HM0.out.drewN nq
  have ha2 : AddB (w1.drewN nq) l b0 d x := HA0.out.below (E.below_drewN (Below.refl _ w1) nq)
  have hk2 : Kept (fun i => F i ∧ i ≠ b0) w1 (w1.drewN nq) := (Kept.refl _ w1).drewN nq
  clear c2 c4 HM0 HA0
  revert hm2 ha2 hk2
  generalize w1.drewN nq = wt
  intro hm2 ha2 hk2
  have HMs := Lib.hid hm2
  have HAs := Lib.hid ha2
  have HKs := Lib.hid hk2
  have HFs : Hid (∀ i, wt.heap.size ≤ i → (fun i => F i ∧ i ≠ b0) i) := Lib.hid (fun i hi => HF2.out i (Nat.le_trans hk2.size hi))
  clear hm2 ha2 hk2
  go_wp2_with fail
  refine (jsync_any (F := (fun i => F i ∧ i ≠ b0)) HFs.out HMs.out).mono ?_
  rw [HJS.out]
  rintro e ws ⟨rfl, hms, hks⟩
  have has : AddB ws l b0 d x := AddB.kept HAs.out hks hms
  have hkk : Kept (fun i => F i ∧ i ≠ b0) w1 ws := HKs.out.trans hks
  clear hks HMs HAs HKs HFs
  simp only at hms
  by_cases hz : E1 = 0
  case neg =>
    have HJ2 := Lib.hid ((HJA.out).trans (if_pos hz))
    have hz1 : ¬ (E1 : Int) = 0 := by omega
    have HMS := Lib.hid hms
    have HKK := Lib.hid hkk
    clear hz HJ HJA has hms hkk
    go_wp2_with fail
    go_ret
    rw [HJ2.out, HJS.out]
    exact ⟨_, rfl, HMS.out.mono (fun i hi _ => hi.1) HS7.out, HKW.out _ HKK.out⟩
  subst hz
  have HJA2 := Lib.hid ((HJA.out).trans (if_neg (by simp)))
  clear HJA HJS
  revert hms has hkk
  generalize hwt : ws = wt2
  clear hwt ws
  clear wt
  intro hms has hkk
  have HM := Lib.hid hms
  have HA := Lib.hid has
  have HK := Lib.hid hkk
  clear hms has hkk
  -- the tail
  have c2 := HM.out.self.c 2 rfl
  have c4 := HM.out.self.c 4 rfl
  rw [HV1.out] at c4
  go_wp2_with fail
  go_quiet (fail)
  have hm2 := HM.out.drewN nq
  have ha2 : AddB (wt2.drewN nq) l b0 d x := HA.out.below (E.below_drewN (Below.refl _ wt2) nq)
  have hk2 : Kept (fun i => F i ∧ i ≠ b0) w1 (wt2.drewN nq) := HK.out.drewN nq
  clear c2 c4 HM HA HK
  revert hm2 ha2 hk2
  generalize wt2.drewN nq = wq
  intro hm2 ha2 hk2
  have HM := Lib.hid hm2
  have HA := Lib.hid ha2
  have HK := Lib.hid hk2
  have HSZ : Hid (w1.heap.size ≤ wq.heap.size) := Lib.hid hk2.size
  obtain ⟨⟨p0, x0, x1, x2, x3, x4, x5, x6, x7⟩, _⟩ := ha2.out
  clear hm2 ha2 hk2
  go_upto_region 6 with fail
  go_region_held3 (fun w' => (w'.cell? ⟨l, 0, none⟩ = some (.pointer (some ⟨d, 0, none⟩)) ∧ w'.cell? ⟨b0, 0, none⟩ = some (.string x.s) ∧ w'.cell? ⟨b0, 1, none⟩ = some (.int .i64 x.n) ∧ w'.cell? ⟨b0, 2, none⟩ = some (.int .i64 x.a) ∧ w'.cell? ⟨b0, 3, none⟩ = some (.int .i64 x.k) ∧ w'.cell? ⟨b0, 4, none⟩ = some (.string x.p) ∧ w'.cell? ⟨b0, 5, none⟩ = some (.string x.i) ∧ w'.cell? ⟨b0, 6, none⟩ = some (.int .i64 x.v) ∧ w'.cell? ⟨b0, 7, none⟩ = some (.string x.t)) ∧ AddB w' l b0 d x)
    ((refine AddB.out ?_; with_reducible (repeat (first | exact HA.out | assumption | refine AddB.drew ?_ | refine AddB.alloc ?_ _ | refine AddB.below ?_ (by assumption)))))
    (first | (go_at_call 82; refine (file_any (F := (fun i => F i ∧ i ≠ b0)) (d := d) (n := n) (per := per) (v := v) (j := j1) (by with_reducible (repeat (first | exact HM.out | refine LogM.drew ?_ | refine LogM.alloc ?_ _ | refine LogM.below ?_ (by assumption)))) K HKS.out).mono ?_; rintro e wa ⟨rfl, hba⟩) | (go_at_call 90; refine (frames_any _ [x] HOK.out (show 1 ≤ 100000 by decide) _ (by first | exact lit_evs x _ | exact lit_evs2 x (by assumption)) (LogM.lay (F := (fun i => F i ∧ i ≠ b0)) (d := d) (l := l) (n := n) (per := per) (v := v) (j := j1) (by with_reducible (repeat (first | exact HM.out | refine LogM.drew ?_ | refine LogM.alloc ?_ _ | refine LogM.below ?_ (by assumption)))))).mono ?_; rintro e wb ⟨u, rfl, hu, hbb⟩; rw [byt_one] at hu) | (go_at_call 89; refine (D.append_any (F := Foot (fun i => F i ∧ i ≠ b0) l v) (LogM.free (d := d) (n := n) (per := per) (j := j1) (by with_reducible (repeat (first | exact HM.out | refine LogM.drew ?_ | refine LogM.alloc ?_ _ | refine LogM.below ?_ (by assumption)))) (fun i hi => HF2.out i (Nat.le_trans (Kept.size (F := (fun i => F i ∧ i ≠ b0)) (w := w1) (by with_reducible (repeat (first | exact HK.out | refine Kept.drew ?_ | refine Kept.alloc ?_ _ | refine Kept.bel ?_ (by assumption))))) hi))) (LogM.sep (F := (fun i => F i ∧ i ≠ b0)) (d := d) (l := l) (n := n) (per := per) (v := v) (j := j1) (by with_reducible (repeat (first | exact HM.out | refine LogM.drew ?_ | refine LogM.alloc ?_ _ | refine LogM.below ?_ (by assumption))))) (fileN n K) HFS.out _ (frameL (pay x)) _ (by refine Seen.own (base := 0) ?_; with_reducible (repeat (first | exact (OwnB.mono (by assumption) (Nat.zero_le _)) | refine OwnB.drew ?_ | refine OwnB.alloc ?_ _ | refine OwnB.below ?_ (by assumption) (Nat.le_refl _)))) (Nat.le_refl _) HFL.out).mono ?_; rintro e wc ⟨rfl, hdc, hkc⟩; have HMC := Lib.hid (LogM.turn (F := (fun i => F i ∧ i ≠ b0)) (n := n) (per := per) (v := v) (j := j1) (by with_reducible (repeat (first | exact HM.out | refine LogM.drew ?_ | refine LogM.alloc ?_ _ | refine LogM.below ?_ (by assumption)))) hdc hkc); have HKC : Hid (Kept (fun i => F i ∧ i ≠ b0) w1 wc) := Lib.hid (Kept.trans (by with_reducible (repeat (first | exact HK.out | refine Kept.drew ?_ | refine Kept.alloc ?_ _ | refine Kept.bel ?_ (by assumption)))) HMC.out.2); have HAC : AddB wc l b0 d x := AddB.kept (by with_reducible (repeat (first | exact HA.out | assumption | refine AddB.drew ?_ | refine AddB.alloc ?_ _ | refine AddB.below ?_ (by assumption)))) HMC.out.2 HMC.out.1; clear hdc hkc) | (go_at_call 57; refine (told_any HMC.out.1 _).mono ?_; rintro e wd ⟨rfl, hmd, hkd⟩; have HMD := Lib.hid hmd; have HKD := Lib.hid (HKC.out.trans hkd); have HAD : AddB wd l b0 d x := HAC.kept hkd hmd; clear hmd hkd))
  all_goals
    clear p0 x0 x1 x2 x3 x4 x5 x6 x7 HM HA HK HMC HKC HAC HSZ
    have HMDX := HMD
    have HADX := Lib.hid HAD
    clear HAD
    obtain ⟨E, hE⟩ : ∃ E, appendE j1.dk (fileN n K) (frameL (pay x)) = E := ⟨_, rfl⟩
    rw [hE] at HMD HJ ⊢
    have HE := Lib.hid hE
    clear hE HMDX
    by_cases hz : E = 0
    · subst hz
      have HJ2 := Lib.hid ((HJ.out).trans (if_neg (by simp)))
      have c3 := HMD.out.self.c 3 rfl
      have f3 := HMD.out.self.f 3
      have hm9 := HMD.out.files (K + 1) (by have := HKL.out; omega)
      rw [show ((K + 1 : Nat) : Int) = (K : Int) + 1 from rfl] at hm9
      have ha9 : AddB (wd.setCell ⟨l, 3, none⟩ (.int .i64 ((K : Int) + 1))) l b0 d x := AddB.kept HADX.out hm9.2 hm9.1
      have hk9 := HKD.out.trans hm9.2
      have hs9 : w1.heap.size ≤ (wd.setCell ⟨l, 3, none⟩ (.int .i64 ((K : Int) + 1))).heap.size := hk9.size
      have k1 : wrap64 ((K : Int) + 1) = (K : Int) + 1 := by have := HKL.out; unfold wrap64; omega
      clear HMD HADX HJ HKD
      have hm9 := hm9.1
      go_wp2_with fail
      revert hm9 ha9 hk9 hs9
      generalize wd.setCell ⟨l, 3, none⟩ (.int .i64 ((K : Int) + 1)) = w9
      intro ha9 hk9 hs9 hm9
      obtain ⟨⟨p0, x0, x1, x2, x3, x4, x5, x6, x7⟩, _⟩ := ha9.out
      have c4 := hm9.self.c 4 rfl
      have f4 := hm9.self.f 4
      rw [HV1.out] at c4
      have o2 : (w9.alloc (.cells #[.string x.s, .int .i64 x.n, .int .i64 x.a, .int .i64 x.k, .string x.p, .string x.i, .int .i64 x.v, .string x.t] 52)).drew.cell? ⟨l, 4, none⟩ = some (.slice q L cap) := by
        have := ((hm9.drew).alloc (.cells #[.string x.s, .int .i64 x.n, .int .i64 x.a, .int .i64 x.k, .string x.p, .string x.i, .int .i64 x.v, .string x.t] 52)).self.c 4 rfl
        rw [HV1.out] at this
        exact this
      have HD := Lib.hid hm9.drew
      have HK9 := Lib.hid hk9
      have HF9 : Hid (∀ i, w9.drew.heap.size ≤ i → F i ∧ i ≠ b0) := Lib.hid (fun i hi => HF2.out i (Nat.le_trans hs9 hi))
      have HL6 : Hid (L ≤ 1048576) := Lib.hid (by have := HZ.out; rw [HL.out] at this; omega)
      clear hm9 ha9 hk9 hs9 c3 f3
      obtain ⟨i0, hi0, hz0, hz1, hz2⟩ := info52_parts
      go_region_law (refine step_append_lies _ rfl (.tmp 59) (.tmp 61) 62 rfl 0 52 i0 _ 8 96 Tryz.underlying62 hi0 hz0 hz1 hz2 rfl (by decide) (.slice q L cap) L (evsL j1.es) rfl (by have h1 := (HD.out.alloc (.cells #[.string x.s, .int .i64 x.n, .int .i64 x.a, .int .i64 x.k, .string x.p, .string x.i, .int .i64 x.v, .string x.t] 52)).row; unfold EvRow at h1; rw [HL.out] at h1; rw [HV1.out] at h1; exact h1) ⟨w9.heap.size, 0, none⟩ 1 1 (evL x) rfl rfl (news_of (w := w9.drew) x w9.heap.size rfl) (evL_one x) (by decide) (by have := HL6.out; unfold maxLen; omega) (by have := HL6.out; omega) (Nat.zero_le _) _ rfl ?_; intro g cap2 w10 hown hgr hat hlt3; rw [← HL.out] at hown; rw [← HV1.out] at hgr hat; obtain ⟨p1, p2, p3⟩ := HD.out.push HF9.out x HZ.out hown hgr hat; rw [HL.out] at p2 p3; have q3 := p1.c 4 rfl; rw [HV1.out] at q3; have g3 := p1.f 4; have HO3 := Lib.hid p2; have HB3 := Lib.hid p3; clear p1 p2 p3 hown hgr hat)
      all_goals (go_wp2_with fail)
      all_goals go_ret
      all_goals
        rw [HJA2.out, HJ2.out]
        refine ⟨rfl, ⟨_, HO3.out.mono (fun i hi _ => hi.1) HS7.out⟩, HKW.out _ (Kept.trans HK9.out.drew HB3.out)⟩
    · have HJ2 := Lib.hid ((HJ.out).trans (if_pos hz))
      have hz1 : ¬ (E : Int) = 0 := by omega
      clear hz HJ HADX
      go_wp2_with fail
      go_ret
      rw [HJA2.out, HJ2.out]
      exact ⟨_, rfl, HMD.out.mono (fun i hi _ => hi.1) HS7.out, HKW.out _ HKD.out⟩
/-- One event more, whatever comes. -/
theorem add_any (hF : ∀ i, w.heap.size ≤ i → F i) (h : LogM w F d l n per v j) (x : Ev) (hx : E.mayB x = true) (hz : j.es.length + 1 ≤ 1048576) :
    Calls Tryz.prog 66 #[.pointer (some ⟨l, 0, none⟩), evV x] w fun e w' => ∃ v', e = .returned (.int .i64 ((jadd pay n per x j).2 : Int)) ∧ LogM w' F d l n per v' (jadd pay n per x j).1 ∧ Kept F w w' := by
  by_cases hR : j.es.length % per = 0
  · exact add_sync hF h x hx hz hR
  · have e : jadd pay n per x j = jput pay n per x j := by unfold jadd; rw [if_neg hR]
    rw [e]
    exact add_go hF h x hx hz hR
end
end Go.Proofs.YtghnbkkfghfifaaGreatDoor
