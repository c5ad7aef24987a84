/- The program's Crash. -/
import Derived.Test.YtfkefppabjbbdaaO
import Derived.Deep.LoopGhost
import Derived.Deep.CutRange
namespace Go.Proofs.Ytfkefppabjbbdaa
open Go.RowKit Go.Maps
set_option linter.unusedVariables false
theorem down_true {w : World} {F : Nat → Prop} {d B : Nat} {E : List Ent} {u fuse : Int} {down : Bool} (h : DiskM w F d B E u fuse down) : DiskM ((w.setCell ⟨d, 2, none⟩ (.int .i64 (-1))).setCell ⟨d, 3, none⟩ (.bool false)) F d B E u (-1) false := (h.setFuse (-1)).setDown false
theorem own_cap {w : World} {base n cap : Nat} {q : Option Addr} {l : List UInt8} (h : OwnB w base (.slice q n cap) l) : n = l.length ∧ n ≤ cap ∧ (q = none → n = 0) := by
  rcases h.2 with ⟨hv, h0⟩ | ⟨g, c, cur, hv, _, _, h1, _⟩
  · cases hv; exact ⟨h0.symm, by omega, fun _ => rfl⟩
  · cases hv; exact ⟨rfl, h1, fun e => by cases e⟩
theorem Ints.below {w w' : World} {P : Nat → Prop} {v : Value} {ks : List Int} (h : Ints w P v ks) (hb : Below w.heap.size w w') : Ints w' P v ks := by
  rcases h with h | ⟨ad, cap, hv, hbb, hh⟩
  · exact .inl h
  · refine .inr ⟨ad, cap, hv, fun h0 => ⟨(hbb h0).1, Nat.lt_of_lt_of_le (hbb h0).2 hb.size⟩, fun j hj => ?_⟩
    rw [World.cell?_of_block (w := w) (a := ad.add j) (hb.block _ (by rw [add_block]; exact (hbb (by omega)).2))]
    exact hh j hj
theorem own_blk9 {w : World} {base : Nat} {u : Value} {ps : List (List UInt8)} (h : Txts w base u ps) : ∀ g, u.ownBlock = some g → base ≤ g := own_block h
set_option maxRecDepth 100000 in
theorem crash_mem_any {w : World} {F : Nat → Prop} {d B : Nat} {E : List Ent} {k : Dk} (h : DiskM w F d B E (tot k.L : Nat) k.fuse k.down) (hE : E.map Ent.f = k.L) (hok : Ok k) (kv : Value) (ks : List Int) (hkv : Ints w (fun i => ¬ F i) kv ks) (hks : ks.length ≤ 1000000) :
    Calls Try.prog 18 #[.pointer (some ⟨d, 0, none⟩), kv] w fun e w' => e = .returned (.tuple #[]) ∧ DiskAt w' F d (crashD k ks) ∧ Kept F w w' := by
  have hn := Lib.hid (names_mem h (by rw [← len_E hE]; have := hok.len; omega))
  obtain ⟨q, cap, rfl⟩ := hkv.len
  obtain ⟨N, hN⟩ : ∃ N, k.L.length = N := ⟨_, rfl⟩
  have hNE : E.map Ent.k = k.L.map Fl.name := by rw [← hE, List.map_map]; rfl
  rw [hNE] at hn
  have hN4 : N ≤ 4096 := by rw [← hN]; exact hok.len
  have HM := Lib.hid (h.mono (G := fun i => F i ∧ i < w.heap.size) (fun i hi hl => ⟨hi, hl⟩))
  have HE := Lib.hid hE
  have HOK := Lib.hid hok
  have HN := Lib.hid hN
  have HKV := Lib.hid hkv
  clear h hE hok hN hkv hNE
  go_enter Try.func18, Try.ntmps18
  go_wp2_with fail
  refine (hn.out).mono ?_
  rintro e w1 ⟨v, rfl, ht, hb1⟩
  obtain ⟨q1, cap1, rfl⟩ := ht.len
  have hl1 : (k.L.map Fl.name).length = N := by rw [List.length_map, HN.out]
  rw [hl1] at ht
  have HT := Lib.hid ht
  have HB1 := Lib.hid hb1
  have HM1 := Lib.hid (HM.out.below hb1)
  rw [hl1]
  clear ht hb1 hl1 hn
  go_wp2_with fail
  go_loopw [11] (fun iv wr => ∃ (i : Nat) (A R : List Ent) (u : Nat), i ≤ N ∧ iv = .int .i64 i ∧ u ≤ 4194304 ∧ Hid (A.map Ent.f = crashL (k.L.take i) ks ∧ R.map Ent.f = k.L.drop i ∧ u = tot ((A ++ R).map Ent.f)) ∧ Hid (DiskM wr (fun i => F i ∧ i < w.heap.size) d B (A ++ R) u k.fuse k.down) ∧ Hid (Kept (fun i => F i ∧ i < w.heap.size) w1 wr)) (fun iv _ => N - (intOf iv).toNat)
  case atStart =>
    refine ⟨0, [], E, tot k.L, by omega, rfl, HOK.out.tot, ⟨by rw [List.take_zero]; rfl, by rw [HE.out]; rfl, by rw [List.nil_append, HE.out]⟩, HM1.out, Kept.refl _ _⟩
  case round =>
    obtain ⟨i, A, R, u, hi, rfl, hu, HR, HD, HK⟩ := hrel
    by_cases hlt : i < N
    · have hiL : i < k.L.length := by rw [HN.out]; exact hlt
      have hd : k.L.drop i = k.L[i] :: k.L.drop (i + 1) := List.drop_eq_getElem_cons hiL
      obtain ⟨r1, r2, r3⟩ := HR.out
      rw [hd] at r2
      cases R with
      | nil => simp at r2; omega
      | cons x R' =>
        obtain ⟨xf, xb, xv⟩ := x
        simp only [List.map_cons, List.cons.injEq] at r2
        obtain ⟨hxf, r2⟩ := r2
        have hT2 := HT.out.keptF HK.out (fun g hg hG => by have := own_blk9 HT.out g hg; omega)
        obtain ⟨g, rfl, hcn⟩ := hT2.at i (by rw [List.length_map]; exact hiL)
        rw [List.getElem_map, ← hxf] at hcn
        have hx := HD.out.each ⟨xf, xb, xv⟩ (by simp)
        obtain ⟨q2, cap2, hxv⟩ := hx.row.len
        simp only at hxv
        have hxl : xf.lasts ≤ xf.s.length := by rw [hxf]; exact HOK.out.lasts _ (List.getElem_mem hiL)
        have hxn := HOK.out.names k.L[i] (List.getElem_mem hiL)
        rw [← hxf] at hxn
        have hxt : xf.s.length ≤ u := by rw [r3]; exact tot_mem (by rw [List.map_append]; simp)
        obtain ⟨n, hn⟩ : ∃ n, xf.s.length = n := ⟨_, rfl⟩
        rw [hn] at hxv
        subst hxv
        obtain ⟨-, hcap2, hq2⟩ := own_cap hx.row
        have hlook := HD.out.map.look1 (n := xf.name) (by unfold maxLen; omega)
        have hget : getK Ent.k xf.name (A ++ ⟨xf, xb, .slice q2 n cap2⟩ :: R') = some ⟨xf, xb, .slice q2 n cap2⟩ := getK_mem (e := ⟨xf, xb, .slice q2 n cap2⟩) HD.out.sorted (by simp)
        rw [hget] at hlook
        simp only at hlook
        have hne : d ≠ xb := HD.out.self.ne hx.cells (by decide)
        have HXC : Hid (Blk wr xb [.slice q2 n cap2, .int .i64 xf.lasts, .bool xf.stays] 68) := Lib.hid hx.cells
        have c0 := HD.out.self.c 0 rfl
        have c1 := HD.out.self.c 1 rfl
        obtain ⟨la, hla⟩ : ∃ la, xf.lasts = la := ⟨_, rfl⟩
        obtain ⟨L, hL⟩ : ∃ L, keepAt ks i = L := ⟨_, rfl⟩
        obtain ⟨K, hK⟩ : ∃ K, leftN xf L = K := ⟨_, rfl⟩
        have hKK : K = min L.toNat (n - la) := by rw [← hK, ← hn, ← hla]; rfl
        rw [hla, hn] at hxl
        have HL := Lib.hid hL
        have HKK := Lib.hid hKK
        have HKe := Lib.hid hK
        have Hn := Lib.hid hn
        have Hla := Lib.hid hla
        have HXF : Hid (k.L[i]? = some xf) := Lib.hid (by rw [List.getElem?_eq_getElem hiL, ← hxf])
        have HIL := Lib.hid hiL
        have HR1 := Lib.hid r1
        have HR2 := Lib.hid r2
        have HR3 := Lib.hid r3
        have HI : Hid (Ints wr (fun i => ¬ F i) (.slice q ks.length cap) ks) := Lib.hid ((HKV.out.below HB1.out).keptF HK.out (fun i h1 h2 => h1 h2.1))
        clear r1 r2 r3 hxf hT2 hx hn hget hla hL hK hKK HR hd hiL
        obtain ⟨st, hst⟩ : ∃ st, xf.stays = st := ⟨_, rfl⟩
        have hxc := HXC.out
        rw [Hla.out, hst] at hxc
        have HXC' := Lib.hid hxc
        have hself := Lib.hid HD.out.self
        clear hxc HXC
        go_upto_if 19 with fail
        go_cut [6, 11] from 11 to 60 (fun s6 s11 wx => s6 = .int .i64 L ∧ s11 = .int .i64 i ∧ wx = wr)
        case first =>
          by_cases hk : i < ks.length
          · obtain ⟨ad, rfl, hci⟩ := HI.out.at i hk
            have e1 : ks[i] = L := by
              have := HL.out
              unfold keepAt at this
              rw [List.getD_eq_getElem?_getD, List.getElem?_eq_getElem hk] at this
              exact this
            rw [e1] at hci
            have b1 : decide ((i : Int) < (ks.length : Int)) = true := by simp; omega
            clear e1
            go_wp2_with fail
            go_meet
            exact ⟨rfl, rfl, rfl⟩
          · have e1 : L = 0 := by
              have := HL.out
              unfold keepAt at this
              rw [List.getD_eq_getElem?_getD, List.getElem?_eq_none (by omega)] at this
              exact this.symm
            have E1 := Lib.hid e1
            clear e1
            have b1 : decide ((i : Int) < (ks.length : Int)) = false := by simp; omega
            go_wp2_with fail
            go_meet
            exact ⟨by rw [E1.out], rfl, rfl⟩
        case rest =>
          obtain ⟨rfl, rfl, rfl⟩ := hcut
          obtain ⟨G, hG⟩ : ∃ G, n - la - K = G := ⟨_, rfl⟩
          have hGu : G ≤ u := by have := Hn.out; omega
          have HCUT : Hid (∀ wx, Blk wx xb [.slice q2 n cap2, .int .i64 la, .bool st] 68 → Calls Try.prog 36 #[.pointer (some ⟨xb, 0, none⟩), .int .i64 L] wx fun e w' => e = .returned (.int .i64 (G : Nat)) ∧ Blk w' xb [.slice q2 (la + K : Nat) cap2, .int .i64 la, .bool st] 68 ∧ wx.grownBy w' (some xb)) := Lib.hid (fun wx hbx => by
            have := cut_any (K := K) (left := L) hbx hxl hcap2 (by have := Hn.out; omega) hq2 HKK.out
            rw [hG] at this
            exact this)
          have HGG := Lib.hid hG
          have d1 := hself.out.c 1 rfl
          have HMEM : Hid (∀ w3, wc.grownBy w3 (some xb) → Blk w3 xb [.slice q2 (la + K : Nat) cap2, .int .i64 la, .bool st] 68 → DiskM w3 (fun i => F i ∧ i < w.heap.size) d B (A ++ ⟨cutF xf L, xb, .slice q2 (la + K) cap2⟩ :: R') u k.fuse k.down ∧ Kept (fun i => F i ∧ i < w.heap.size) wc w3) := Lib.hid (fun w3 hg hb => by
            have h1 := cut_mem HD.out (by rw [Hla.out, Hn.out]; exact hxl) L (w' := w3) (by rw [Hla.out, HKe.out, ‹xf.stays = st›]; exact hb) hg
            rw [Hla.out, HKe.out] at h1
            exact h1)
          have hst' := Lib.hid hst
          have HSZ := Lib.hid HD.out.fd
          clear hG hst hxt hq2
          go_upto_region 7 with fail
          go_cut [11] from 11 to 60 (fun s11 wx => s11 = .int .i64 i ∧ Hid (DiskM wx (fun i => F i ∧ i < w.heap.size) d B (A ++ ⟨cutF xf L, xb, .slice q2 (la + K) cap2⟩ :: R') ((u : Int) - (G : Int)) k.fuse k.down) ∧ Hid (Kept (fun i => F i ∧ i < w.heap.size) w1 wx))
          case first =>
            have hww : IntKind.i64.wrap ((u : Int) - (G : Int)) = (u : Int) - (G : Int) := by rw [IntKind.wrap_i64]; omega
            go_region_with ((go_at_call 36; refine (HCUT.out _ HXC'.out.drew).mono ?_; rintro e w3 ⟨rfl, hb3, hg3⟩; have hm3 := HMEM.out w3 ⟨hg3.os, hg3.tape, hg3.output, hg3.size, hg3.block⟩ hb3; have c31 := hm3.1.self.c 1 rfl; have f31 := hm3.1.self.f 1; have HM3 := Lib.hid hm3; clear hm3 hb3 hg3))
            all_goals (go_wp2_with fail)
            all_goals (try rw [hww])
            all_goals (go_meet; exact ⟨rfl, HM3.out.1.setUsed _, (HK.out.trans HM3.out.2).set _ _ (.inr HSZ.out)⟩)
          case rest =>
            obtain ⟨rfl, HD3, HK3⟩ := hcut
            obtain ⟨E1, hE1⟩ : ∃ E1, E1 = A ++ ⟨cutF xf L, xb, .slice q2 (la + K) cap2⟩ :: R' := ⟨_, rfl⟩
            rw [← hE1] at HD3
            have hx1 : (⟨cutF xf L, xb, .slice q2 (la + K) cap2⟩ : Ent) ∈ E1 := by rw [hE1]; simp
            have HE1 := Lib.hid hE1
            have HX1 := Lib.hid hx1
            clear hE1 hx1
            have hLK : Hid ((cutF xf L).s.length = la + K) := Lib.hid (by
              rw [cut_len (by rw [Hla.out, Hn.out]; exact hxl) L, Hla.out, HKe.out])
            have hgone : Hid (goneF (cutF xf L) = (!st && decide (la + K = 0))) := Lib.hid (by
              rw [gone_eq (by rw [Hla.out, Hn.out]; exact hxl) L, Hla.out, HKe.out, hst'.out])
            have hu' : Hid (((u - G : Nat) : Int) = (u : Int) - (G : Int)) := Lib.hid (by omega)
            have hct : Hid (crashL (k.L.take (i + 1)) ks = crashL (k.L.take i) ks ++ crashF xf L) := Lib.hid (by
              have h1 := crash_take HIL.out ks
              have h2 := HXF.out
              rw [List.getElem?_eq_getElem HIL.out] at h2
              rw [h1, Option.some.inj h2, HL.out])
            have hxe := HD3.out.each _ HX1.out
            have hbx : Blk wc xb [.slice q2 (la + K : Nat) cap2, .int .i64 la, .bool st] 68 := by
              have := hxe.cells
              rw [show (cutF xf L).lasts = xf.lasts from rfl, show (cutF xf L).stays = xf.stays from rfl, Hla.out, hst'.out] at this
              exact this
            have e0 := hbx.c 0 rfl
            have e2 := hbx.c 2 rfl
            have m0 := HD3.out.self.c 0 rfl
            have hlast := Lib.hid (last_any hbx)
            have hmap := HD3.out.map
            have hkey := key9 (n := xf.name) (by unfold maxLen; omega)
            have hLLK : la + K ≤ n := by have := HKK.out; omega
            clear hxe hbx
            by_cases hgo : st = false ∧ la + K = 0
            · obtain ⟨rfl, h0⟩ := hgo
              have g0 : (((la + K : Nat) : Int) == 0) = true := by rw [h0]; rfl
              have hg0 : Hid (goneF (cutF xf L) = true) := Lib.hid (by rw [hgone.out, h0]; rfl)
              have H0 := Lib.hid h0
              clear h0
              go_wp2_with (at_delete; refine wpList_delete_own _ rfl _ _ 72 9 rfl 63 law9 Try.underlying72 relem B _ _ rfl hmap _ (.string xf.name) rfl hkey ?_)
              intro w4 hown4 hturn4
              have hd4 := HD3.out.drop (n := xf.name) hturn4.grown hown4
              have hk4 : Hid (Kept (fun i => F i ∧ i < w.heap.size) w1 w4) := Lib.hid (HK3.out.grown hturn4.grown (fun j hj => by cases hj; exact .inr HD3.out.fB))
              have hR4 : Hid (A.map Ent.f = crashL (k.L.take (i + 1)) ks ∧ R'.map Ent.f = k.L.drop (i + 1) ∧ u - G = tot ((A ++ R').map Ent.f)) := Lib.hid (by
                refine ⟨?_, HR2.out, ?_⟩
                · rw [hct.out, HR1.out]
                  unfold crashF
                  rw [if_pos hg0.out, List.append_nil]
                · have h1 := HR3.out
                  have h2 := HGG.out
                  have h3 := H0.out
                  have h4 := Hn.out
                  simp only [List.map_append, List.map_cons, tot_app, tot] at h1 ⊢
                  omega)
              have hD4 : Hid (DiskM w4 (fun i => F i ∧ i < w.heap.size) d B (A ++ R') ((u - G : Nat) : Int) k.fuse k.down) := Lib.hid (by
                have h1 : delK Ent.k xf.name E1 = A ++ R' := by
                  have h2 := HD3.out.sorted
                  rw [HE1.out] at h2 ⊢
                  exact delK_mid (x := ⟨cutF xf L, xb, .slice q2 (la + K) cap2⟩) h2
                rw [h1] at hd4
                rw [hu'.out]
                exact hd4)
              have hu4 : u - G ≤ 4194304 := by omega
              clear hown4 hturn4 hd4 hmap m0 e0 e2
              go_wp2_with fail
              refine ⟨⟨i + 1, A, R', u - G, by omega, by simp, hu4, hR4, hD4, hk4⟩, ?_⟩
              simp only [intOf]
              omega
            · have hg0 : Hid (goneF (cutF xf L) = false) := Lib.hid (by
                rw [hgone.out]
                cases st with
                | true => rfl
                | false =>
                  have : decide (la + K = 0) = false := decide_eq_false (fun h => hgo ⟨rfl, h⟩)
                  rw [this]; rfl)
              have hR4 : Hid ((A ++ ([⟨lastF (cutF xf L), xb, .slice q2 (la + K) cap2⟩] : List Ent)).map Ent.f = crashL (k.L.take (i + 1)) ks ∧ R'.map Ent.f = k.L.drop (i + 1) ∧ u - G = tot (((A ++ ([⟨lastF (cutF xf L), xb, .slice q2 (la + K) cap2⟩] : List Ent)) ++ R').map Ent.f)) := Lib.hid (by
                refine ⟨?_, HR2.out, ?_⟩
                · rw [hct.out, List.map_append, HR1.out]
                  unfold crashF
                  rw [if_neg (by rw [hg0.out]; simp)]
                  rfl
                · have h1 := HR3.out
                  have h2 := HGG.out
                  have h3 := hLK.out
                  have h4 := Hn.out
                  simp only [List.map_append, List.map_cons, List.map_nil, tot_app, tot] at h1 ⊢
                  have h5 : (lastF (cutF xf L)).s.length = la + K := h3
                  omega)
              have hD4 : Hid (∀ w4, wc.grownBy w4 (some xb) → Blk w4 xb [.slice q2 (la + K : Nat) cap2, .int .i64 ((la + K : Nat) : Int), .bool true] 68 → DiskM w4 (fun i => F i ∧ i < w.heap.size) d B ((A ++ ([⟨lastF (cutF xf L), xb, .slice q2 (la + K) cap2⟩] : List Ent)) ++ R') ((u - G : Nat) : Int) k.fuse k.down ∧ Kept (fun i => F i ∧ i < w.heap.size) w1 w4) := Lib.hid (fun w4 hg hb => by
                obtain ⟨h1, h2⟩ := last_mem HD3.out HX1.out (by rw [hLK.out]; exact hb) hg
                have h3 : insK Ent.k ⟨lastF (cutF xf L), xb, .slice q2 (la + K) cap2⟩ E1 = (A ++ ([⟨lastF (cutF xf L), xb, .slice q2 (la + K) cap2⟩] : List Ent)) ++ R' := by
                  have h2 := HD3.out.sorted
                  rw [HE1.out] at h2 ⊢
                  rw [insK_mid (by rfl) h2, List.append_assoc]
                  rfl
                rw [h3] at h1
                rw [hu'.out]
                exact ⟨h1, HK3.out.trans h2⟩)
              have hu4 : u - G ≤ 4194304 := by omega
              clear hmap m0
              cases st with
              | true =>
                go_wp2_with fail
                refine (hlast.out).mono ?_
                rintro e w4 ⟨rfl, hb4, hg4⟩
                have hD5 := Lib.hid (hD4.out w4 hg4 hb4)
                clear hb4 hg4
                go_wp2_with fail
                refine ⟨⟨i + 1, _, R', u - G, by omega, by simp, hu4, hR4, hD5.out.1, hD5.out.2⟩, ?_⟩
                simp only [intOf]
                omega
              | false =>
                have hz : (((la + K : Nat) : Int) == 0) = false := by
                  have : ¬ la + K = 0 := fun h => hgo ⟨rfl, h⟩
                  simp only [beq_eq_false_iff_ne, ne_eq]
                  omega
                go_wp2_with fail
                refine (hlast.out).mono ?_
                rintro e w4 ⟨rfl, hb4, hg4⟩
                have hD5 := Lib.hid (hD4.out w4 hg4 hb4)
                clear hb4 hg4
                go_wp2_with fail
                refine ⟨⟨i + 1, _, R', u - G, by omega, by simp, hu4, hR4, hD5.out.1, hD5.out.2⟩, ?_⟩
                simp only [intOf]
                omega
    · obtain rfl : i = N := by omega
      obtain ⟨r1, r2, r3⟩ := HR.out
      have hR0 : R = [] := by
        rw [List.drop_of_length_le (by rw [HN.out]; exact Nat.le_refl _)] at r2
        simpa using r2
      subst hR0
      rw [List.append_nil] at r3 HD
      rw [List.take_of_length_le (by rw [HN.out]; exact Nat.le_refl _)] at r1
      have f2 := HD.out.self.f 2
      have f3 := HD.out.self.f 3
      have c2 := HD.out.self.c 2 rfl
      have c3 := HD.out.self.c 3 rfl
      have hfin : Hid (DiskAt ((wr.setCell ⟨d, 2, none⟩ (.int .i64 (-1))).setCell ⟨d, 3, none⟩ (.bool false)) F d (crashD k ks)) := Lib.hid (by
        refine ⟨B, A, ?_, r1, ok_crash HOK.out ks⟩
        have h1 := (down_true HD.out).mono (G := F) (fun i hi _ => hi.1)
        have h2 : (u : Int) = ((tot (crashD k ks).L : Nat) : Int) := by rw [r3, r1]; rfl
        rw [← h2]
        exact h1)
      have hkk : Hid (Kept F w ((wr.setCell ⟨d, 2, none⟩ (.int .i64 (-1))).setCell ⟨d, 3, none⟩ (.bool false))) := Lib.hid (by
        have h1 : Kept F w w1 := (Kept.refl F w).of_below HB1.out (fun i hi _ => hi)
        exact ((h1.trans (HK.out.mono (fun i hi => hi.1))).set _ _ (.inr HM.out.fd.1)).set _ _ (.inr HM.out.fd.1))
      clear r1 r2 r3 HR
      go_wp2_with fail
      go_end0
      exact ⟨rfl, hfin.out, hkk.out⟩
/-- Crash, whatever there is. -/
theorem crash_any {w : World} {F : Nat → Prop} {d : Nat} {k : Dk} (h : DiskAt w F d k) (kv : Value) (ks : List Int) (hkv : Ints w (fun i => ¬ F i) kv ks) (hks : ks.length ≤ 1000000) :
    Calls Try.prog 18 #[.pointer (some ⟨d, 0, none⟩), kv] w fun e w' => e = .returned (.tuple #[]) ∧ DiskAt w' F d (crashD k ks) ∧ Kept F w w' := by
  obtain ⟨B, E, hm, hE, hok⟩ := h
  exact crash_mem_any hm hE hok kv ks hkv hks
end Go.Proofs.Ytfkefppabjbbdaa
