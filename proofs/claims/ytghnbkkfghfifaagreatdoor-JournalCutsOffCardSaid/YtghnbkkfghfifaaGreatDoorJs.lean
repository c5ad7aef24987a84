/- Open. -/
import Derived.Test.YtghnbkkfghfifaaGreatDoorJr
namespace Go.Proofs.YtghnbkkfghfifaaGreatDoor
open Go.RowKit Go.Maps D
set_option linter.unusedVariables false
theorem bs_inj' {a b : List UInt8} (h : bs a = bs b) : a = b := by
  have := congrArg (fun z : ByteArray => z.data.toList) h
  simpa [bs] using this
set_option maxRecDepth 100000 in
set_option maxHeartbeats 2000000 in
theorem open_arg (w : World) (u : Value) (s : ByteArray) (p : Int) (h : E.nameB s = false ∨ p < 1 ∨ 4096 < p) :
    Calls Tryz.prog 23 #[u, .string s, .int .i64 p] w fun e w' => e = .returned (.tuple #[.pointer none, .int .i64 1]) ∧ w' = w := by
  by_cases h1 : E.nameB s = true
  · have HN := Lib.hid (E.name_any s w)
    rw [h1] at HN
    have h2 : p < 1 ∨ 4096 < p := by
      rcases h with h | h
      · rw [h1] at h; cases h
      · exact h
    clear h h1
    by_cases h3 : p < 1
    · go_enter Tryz.func23, Tryz.ntmps23
      go_wp2_with (go_at_call 53; refine (HN.out).mono ?_; rintro e w' ⟨rfl, hw⟩; subst w')
      go_ret2
      exact ⟨rfl, rfl⟩
    · have h4 : 4096 < p := by omega
      go_enter Tryz.func23, Tryz.ntmps23
      go_wp2_with (go_at_call 53; refine (HN.out).mono ?_; rintro e w' ⟨rfl, hw⟩; subst w')
      go_ret2
      exact ⟨rfl, rfl⟩
  · have h1 : E.nameB s = false := by simpa using h1
    have HN := Lib.hid (E.name_any s w)
    rw [h1] at HN
    clear h h1
    go_enter Tryz.func23, Tryz.ntmps23
    go_wp2_with (go_at_call 53; refine (HN.out).mono ?_; rintro e w' ⟨rfl, hw⟩; subst w')
    go_ret2
    exact ⟨rfl, rfl⟩
/-- A journal that is just there. -/
theorem LogM.new {w : World} {F : Nat → Prop} {d : Nat} {k : Dk} (hF : ∀ i, w.heap.size ≤ i → F i) (h7 : ∀ i, F i → 7 ≤ i) (hL : E.Lay w) (hd : DiskAt w F d k) {n : List UInt8} (hn : n.length ≤ 24) {per : Nat} (hp : 1 ≤ per ∧ per ≤ 4096) :
    LogM (w.alloc (.cells #[.pointer (some ⟨d, 0, none⟩), .string (bs n), .int .i64 (per : Int), .int .i64 0, .slice none 0 0, .int .i64 0, .int .i64 0] 98)) F d w.heap.size n per (.slice none 0 0) ⟨k, 0, [], 0, 0⟩ := by
  have hb : Below w.heap.size w (w.alloc (.cells #[.pointer (some ⟨d, 0, none⟩), .string (bs n), .int .i64 (per : Int), .int .i64 0, .slice none 0 0, .int .i64 0, .int .i64 0] 98)) := (Below.refl _ w).alloc (Nat.le_refl _) _
  exact ⟨Blk.new w [.pointer (some ⟨d, 0, none⟩), .string (bs n), .int .i64 (per : Int), .int .i64 0, .slice none 0 0, .int .i64 0, .int .i64 0] 98, EvRow.nil _ _, hd.below hb, hF _ (Nat.le_refl _), (fun g hg => by cases hg), hL.next hb, h7, hn, hp, ⟨Nat.zero_le _, Nat.zero_le _, Nat.zero_le _⟩⟩
section
variable {w : World} {F : Nat → Prop} {d : Nat} {n : List UInt8} {per : Nat} {k : Dk}
set_option maxRecDepth 100000 in
set_option maxHeartbeats 2000000 in
set_option pp.maxSteps 100000 in
theorem open_gap (hF : ∀ i, w.heap.size ≤ i → F i) (h7 : ∀ i, F i → 7 ≤ i) (hL : E.Lay w) (hd : DiskAt w F d k) (hup : k.down = false) (hnm : E.nameB (bs n) = true) (hp : 1 ≤ per ∧ per ≤ 4096)
    (hn : ∀ f ∈ k.L, ∃ i, i < 1048576 ∧ f.name = fileN n i) (hgap : ∃ i, i < k.L.length ∧ fileN n i ∉ k.L.map Fl.name) :
    Calls Tryz.prog 23 #[.pointer (some ⟨d, 0, none⟩), .string (bs n), .int .i64 (per : Int)] w fun e w' => e = .returned (.tuple #[.pointer none, .int .i64 13]) ∧ DiskAt w' F d k ∧ Kept F w w' := by
  obtain ⟨B0, E0, hm0, hE0, hok0⟩ := hd
  have c3 := hm0.self.c 3 rfl
  have hd : DiskAt w F d k := ⟨B0, E0, hm0, hE0, hok0⟩
  rw [hup] at c3
  have hn24 : n.length ≤ 24 := by have := (E.nameB_size hnm).2; rw [bs_size] at this; exact this
  have HN := Lib.hid (E.name_any (bs n) w)
  rw [hnm] at HN
  have HD := Lib.hid (D.down_any w d false c3)
  have HM := Lib.hid (LogM.new hF h7 hL hd hn24 hp)
  have HFF := Lib.hid hF
  have p1 : ¬ (per : Int) < 1 := by omega
  have p2 : ¬ (4096 : Int) < (per : Int) := by omega
  have HC := Lib.hid (count_any (fun i hi => hF i (by rw [World.size_alloc] at hi; omega)) HM.out rfl hn 13 (.inr ⟨rfl, hgap⟩))
  clear hd hm0 hE0 hok0 hnm hgap hn hF
  go_enter Tryz.func23, Tryz.ntmps23
  go_wp2_with (first | (go_at_call 53; refine (HN.out).mono ?_; rintro e w' ⟨rfl, hw⟩; subst w') | (go_at_call 54; refine (HD.out).mono ?_; rintro e w' ⟨rfl, hw⟩; subst w'))
  refine (HC.out).mono ?_
  rintro e w1 ⟨rfl, hm1, hk1⟩
  have HM1 := Lib.hid hm1
  have HK1 := Lib.hid hk1
  clear hm1 hk1
  go_wp2_with fail
  go_ret2
  exact ⟨rfl, HM1.out.disk, ((Kept.refl F w).alloc _).trans HK1.out⟩
set_option maxRecDepth 100000 in
set_option maxHeartbeats 2000000 in
set_option pp.maxSteps 100000 in
theorem open_any (hF : ∀ i, w.heap.size ≤ i → F i) (h7 : ∀ i, F i → 7 ≤ i) (hL : E.Lay w) (hd : DiskAt w F d k) (hup : k.down = false) (hnm : E.nameB (bs n) = true) (hp : 1 ≤ per ∧ per ≤ 4096)
    (hn : ∀ f ∈ k.L, ∃ i, i < 1048576 ∧ f.name = fileN n i) (N : Nat) (hN : k.L.length = N) (hall : ∀ i, i < N → fileN n i ∈ k.L.map Fl.name)
    (fs : Nat → List UInt8) (xs : Nat → List Ev) (wh st : Nat → Nat) (ps : Nat → List (List UInt8)) (M : Nat) (hM : M ≤ N)
    (hr : ∀ i, i < N → find k (fileN n i) = 0 ∧ readS k (fileN n i) = fs i ∧ (fs i).length ≤ 10000000 ∧ allB (fs i) = (ps i, wh i, st i) ∧ wh i ≤ (fs i).length ∧ (ps i).length ≤ 10000000 ∧ st i ≤ 2)
    (hg : ∀ i, i < M → ¬ badSeg per N i (ps i).length (st i) ∧ ps i = (xs i).map pay ∧ ∀ x ∈ xs i, OkE x)
    (hb : M < N → badSeg per N M (ps M).length (st M))
    (hl : (((List.range M).map xs).flatten).length ≤ 1048576)
    (es : List Ev) (hes : ((List.range M).map xs).flatten = es) (W : Nat) (hW : curW wh N = W) (c : List UInt8) (hc : curC fs N = c)
    (k' : Dk) (hk' : M = N → (W < c.length → 0 < N ∧ replaceE k (lastN n N) (c.take W) = 0 ∧ k' = replaceD k (lastN n N) (c.take W)) ∧ (¬ W < c.length → jsync n (⟨k, N, es, 0, 0⟩ : Jn Ev) = (⟨k', N, es, if N = 0 then 0 else es.length, 0⟩, 0))) :
    Calls Tryz.prog 23 #[.pointer (some ⟨d, 0, none⟩), .string (bs n), .int .i64 (per : Int)] w fun e w' =>
      (M < N ∧ e = .returned (.tuple #[.pointer none, .int .i64 4]) ∧ DiskAt w' F d k ∧ Kept F w w') ∨
      (M = N ∧ ∃ l v, e = .returned (.tuple #[.pointer (some ⟨l, 0, none⟩), .int .i64 0]) ∧ LogM w' F d l n per v ⟨k', N, es, es.length, 0⟩ ∧ Kept F w w') := by
  obtain ⟨B0, E0, hm0, hE0, hok0⟩ := hd
  have c3 := hm0.self.c 3 rfl
  have hd : DiskAt w F d k := ⟨B0, E0, hm0, hE0, hok0⟩
  rw [hup] at c3
  have hn24 : n.length ≤ 24 := by have := (E.nameB_size hnm).2; rw [bs_size] at this; exact this
  have HN := Lib.hid (E.name_any (bs n) w)
  rw [hnm] at HN
  have HD := Lib.hid (D.down_any w d false c3)
  have HM := Lib.hid (LogM.new hF h7 hL hd hn24 hp)
  have HFF := Lib.hid hF
  have p1 : ¬ (per : Int) < 1 := by omega
  have p2 : ¬ (4096 : Int) < (per : Int) := by omega
  have HC := Lib.hid (count_any (fun i hi => hF i (by rw [World.size_alloc] at hi; omega)) HM.out rfl hn 0 (.inl ⟨rfl, by rw [hN]; exact hall⟩))
  simp only [hN] at HC
  have HLD := Lib.hid (fun (w1 : World) (v1 : Value) (hF1 : ∀ i, w1.heap.size ≤ i → F i) (hm1 : LogM w1 F d w.heap.size n per v1 ⟨k, N, [], 0, 0⟩) => load_any hF1 hm1 N rfl fs xs wh st ps M hM hr hg hb (by rw [List.length_nil]; omega))
  simp only [List.nil_append, hes, hW, hc] at HLD
  have HK9 := Lib.hid hk'
  have hcl : c.length ≤ 10000000 := by
    rw [← hc]
    cases N with
    | zero => exact Nat.zero_le _
    | succ m => exact (hr m (by omega)).2.2.1
  clear hd hm0 hE0 hok0 hnm hn hF hr hg hb hl hes hW hc hk' hall
  go_enter Tryz.func23, Tryz.ntmps23
  go_wp2_with (first | (go_at_call 53; refine (HN.out).mono ?_; rintro e w' ⟨rfl, hw⟩; subst w') | (go_at_call 54; refine (HD.out).mono ?_; rintro e w' ⟨rfl, hw⟩; subst w'))
  refine (HC.out).mono ?_
  rintro e w1 ⟨rfl, hm1, hk1⟩
  have hld := HLD.out w1 _ (fun i hi => HFF.out i (Nat.le_trans (Nat.le_of_lt (by have := hk1.size; rw [World.size_alloc] at this; omega)) hi)) hm1
  have HK1 := Lib.hid (((Kept.refl F w).alloc _).trans hk1)
  have HLL := Lib.hid hld
  clear hm1 hk1 hld HLD HC
  go_wp2_with fail
  refine (HLL.out).mono ?_
  rintro e w2 ⟨v2, hm2, hk2, hcase⟩
  have HM2 := Lib.hid hm2
  have HK2 := Lib.hid (HK1.out.trans hk2)
  clear hm2 hk2 HK1 HLL
  rcases hcase with ⟨hMN, u, rfl, hu⟩ | ⟨hMN, rfl⟩
  · obtain ⟨q1, q2⟩ := HK9.out hMN
    have c6 := HM2.out.self.c 6 rfl
    simp only at c6
    have HU := Lib.hid hu
    by_cases hlt : W < c.length
    · obtain ⟨r1, r2, r3⟩ := q1 hlt
      rw [decide_eq_true hlt]
      have HR2 := Lib.hid r2
      subst r3
      clear q1 q2 hu HK9 r2 c6
      have HLF := Lib.hid (lastFile_any HM2.out r1)
      go_wp2_with fail
      refine (HLF.out).mono ?_
      rintro e w3 ⟨rfl, hb3⟩
      have HM3 := Lib.hid (HM2.out.below hb3)
      have HU3 := Lib.hid (Seen.own (HU.out.below hb3 (Nat.le_refl _)))
      have HK3 := Lib.hid (Kept.bel HK2.out hb3)
      have HRP := Lib.hid (D.replace_any (F := Foot F w.heap.size v2) (HM3.out.free (fun i hi => HFF.out i (Nat.le_trans HK3.out.size hi))) HM3.out.sep (lastN n N) (lastN_short HM3.out.name HM3.out.small.2.1) u (c.take W) HU3.out (by rw [List.length_take]; omega))
      simp only at HRP
      rw [HR2.out] at HRP
      clear hb3 HLF
      go_wp2_with fail
      refine (HRP.out).mono ?_
      rintro e w4 ⟨rfl, hd4, hk4⟩
      have HM4 := Lib.hid (HM3.out.turn hd4 hk4)
      have HTO := Lib.hid (told_any HM4.out.1 0)
      clear hd4 hk4 HRP
      go_wp2_with fail
      refine (HTO.out).mono ?_
      rintro e w5 ⟨rfl, hm5, hk5⟩
      have HM5 := Lib.hid hm5
      have HK5 := Lib.hid (HK3.out.trans (HM4.out.2.trans hk5))
      clear hm5 hk5 HTO HM4 HM3 HU3
      have hsm := HM5.out.small.1
      simp only at hsm
      obtain ⟨q5, cap5, hv5⟩ := HM5.out.row.len
      have c4 := HM5.out.self.c 4 rfl
      have f5 := HM5.out.self.f 5
      have c5 := HM5.out.self.c 5 rfl
      have c6 := HM5.out.self.c 6 rfl
      simp only at hv5 c6
      rw [hv5] at c4
      have HM6 := Lib.hid (HM5.out.lasts es.length hsm)
      clear hv5
      go_wp2_with fail
      go_ret2
      exact .inr ⟨hMN, _, _, rfl, HM6.out.1, HK5.out.trans HM6.out.2⟩
    · rw [decide_eq_false hlt]
      have HQ2 := Lib.hid (q2 hlt)
      have hsy := jsync_any (fun i hi => HFF.out i (Nat.le_trans HK2.out.size hi)) HM2.out
      rw [q2 hlt] at hsy
      simp only at hsy
      have HSY := Lib.hid hsy
      clear q1 q2 hu HK9 hsy c6
      go_wp2_with fail
      refine (HSY.out).mono ?_
      rintro e w5 ⟨rfl, hm5, hk5⟩
      have HM5 := Lib.hid hm5
      have HK5 := Lib.hid (HK2.out.trans hk5)
      clear hm5 hk5 HSY HQ2 HM2
      have hsm := HM5.out.small.1
      simp only at hsm
      obtain ⟨q5, cap5, hv5⟩ := HM5.out.row.len
      have c4 := HM5.out.self.c 4 rfl
      have f5 := HM5.out.self.f 5
      have c5 := HM5.out.self.c 5 rfl
      have c6 := HM5.out.self.c 6 rfl
      simp only at hv5 c6
      rw [hv5] at c4
      have HM6 := Lib.hid (HM5.out.lasts es.length hsm)
      clear hv5
      go_wp2_with fail
      go_ret2
      exact .inr ⟨hMN, _, _, rfl, HM6.out.1, HK5.out.trans HM6.out.2⟩
  · clear HK9
    go_wp2_with fail
    go_ret2
    exact .inl ⟨hMN, rfl, HM2.out.disk, HK2.out⟩
end
end Go.Proofs.YtghnbkkfghfifaaGreatDoor
