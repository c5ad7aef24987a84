/- The document's answer: what a crash leaves. -/
import Derived.Test.YtfkefppabjbbdaaFe
import Derived.Deep.CutRange
namespace Go.Proofs.Ytfkefppabjbbdaa
open Go.RowKit Go.Maps
set_option linter.unusedVariables false
theorem bs_take (l : List UInt8) (k : Nat) : (bs l).extract 0 k = bs (l.take k) := by
  apply ByteArray.ext
  simp [bs]
theorem Out.below {w w' : World} {ob : Nat} {q : Option Addr} {n cap : Nat} {fuse : Int} {down : Bool} {L : List Fl} (h : Out w ob q n cap fuse down L) (hb : Below w.heap.size w w') : Out w' ob q n cap fuse down L :=
  ⟨h.self.below hb h.self.lt, h.row.below hb (Nat.le_refl _)⟩
theorem empty_is {α : Type} (l : List α) : l.isEmpty = decide (l.length = 0) := by cases l <;> simp
theorem gone_is (f : Fl) (left : Int) (hl : f.lasts ≤ f.s.length) : goneF (cutF f left) = (!f.stays && decide (f.lasts + leftN f left = 0)) := by
  unfold goneF cutF
  have h : leftN f left ≤ f.s.length - f.lasts := by unfold leftN; omega
  have e : (f.s.take (f.lasts + leftN f left)).isEmpty = decide (f.lasts + leftN f left = 0) := by
    rw [empty_is, List.length_take]
    congr 1
    apply propext
    omega
  rw [e]
set_option maxRecDepth 100000 in
set_option maxHeartbeats 2000000 in
theorem crash_ref {w : World} {base : Nat} {v : Value} {L : List Fl} (h : Files w base v L) (hl : L.length ≤ 1000000) (hla : ∀ f ∈ L, f.lasts ≤ f.s.length ∧ f.s.length ≤ 4194304) (fuse : Int) (down : Bool) {P : Nat → Prop} (kv : Value) (ks : List Int) (hk : Ints w P kv ks) (hkl : ks.length ≤ 1000000) :
    Calls Try.prog 30 #[.agg #[v, .int .i64 fuse, .bool down], kv] w fun e w' => ∃ v', e = .returned (.agg #[v', .int .i64 (-1), .bool false]) ∧ Files w' w.heap.size v' (crashL L ks) ∧ Below w.heap.size w w' := by
  obtain ⟨q, cap, rfl⟩ := h.len
  obtain ⟨kq, kcap, rfl⟩ := hk.len
  have HV := Lib.hid h
  have HK := Lib.hid hk
  have HLA := Lib.hid hla
  clear h hk hla
  obtain ⟨N, hN⟩ : ∃ N, L.length = N := ⟨_, rfl⟩
  rw [hN] at HV hl
  rw [hN]
  have HN := Lib.hid hN
  clear hN
  obtain ⟨M, hM⟩ : ∃ M, ks.length = M := ⟨_, rfl⟩
  rw [hM] at HK hkl
  rw [hM]
  have HM := Lib.hid hM
  clear hM
  obtain ⟨i0, hi0, hz0, hz1, hz2⟩ := info71_parts
  obtain ⟨b0, hb0⟩ : ∃ b, w.heap.size = b := ⟨_, rfl⟩
  have HB0 := Lib.hid hb0
  rw [hb0]
  go_enter Try.func30, Try.ntmps30
  go_wp2_with fail
  refine (new_ref _).mono ?_
  rintro e w1 ⟨rfl, hb1⟩
  have hA0 := (Blk.alloc (Blk.at hb0.symm [.slice q N cap, .int .i64 fuse, .bool down] 28) (.cells #[.slice none 0 0, .int .i64 0, .bool false] 28)).below hb1 (by simp; omega)
  have hA1 := (Blk.at (w := w.alloc (.cells #[.slice q N cap, .int .i64 fuse, .bool down] 28)) (b := b0 + 1) (by simp; omega) [.slice none 0 0, .int .i64 0, .bool false] 28).below hb1 (by simp; omega)
  have hAV := ((HV.out.alloc (.cells #[.slice q N cap, .int .i64 fuse, .bool down] 28)).alloc (.cells #[.slice none 0 0, .int .i64 0, .bool false] 28)).below hb1 (Nat.le_refl _)
  have hBB : Below b0 w w1 := (((Below.refl _ w).alloc (by omega) _).alloc (by simp; omega) _).trans (hb1.mono (by simp; omega))
  have hKK : Ints w1 P (.slice kq M kcap) ks := HK.out.below (by rw [hb0]; exact hBB)
  clear hb1
  go_wp2_with fail
  obtain ⟨ob, hob⟩ : ∃ b, w1.heap.size = b := ⟨_, rfl⟩
  have hA2 : Out (w1.alloc (.cells #[.slice none 0 0, .int .i64 (-1), .bool false] 28)) ob none 0 0 (-1) false [] := ⟨Blk.at hob.symm [_, _, _] 28, Files.nil _ _⟩
  have hlt1 : b0 + 1 < ob := by have := hA1.lt; omega
  have hB2 : Below b0 w (w1.alloc (.cells #[.slice none 0 0, .int .i64 (-1), .bool false] 28)) := hBB.alloc (by omega) _
  have hA0' := hA0.alloc (.cells #[.slice none 0 0, .int .i64 (-1), .bool false] 28)
  have hA1' := hA1.alloc (.cells #[.slice none 0 0, .int .i64 (-1), .bool false] 28)
  have hAV' := hAV.alloc (.cells #[.slice none 0 0, .int .i64 (-1), .bool false] 28)
  have hKK' : Ints (w1.alloc (.cells #[.slice none 0 0, .int .i64 (-1), .bool false] 28)) P (.slice kq M kcap) ks := hKK.below ((Below.refl _ w1).alloc (Nat.le_refl _) _)
  have hvl : ∀ g, Value.ownBlock (.slice q N cap) = some g → g < ob := fun g hg => by
    rcases hAV.2 with ⟨e, _⟩ | ⟨g', cap', cur, e, _, hh, _⟩
    · rw [e] at hg; cases hg
    · rw [e] at hg; cases hg; have := lt_of_block hh; show g' < ob; omega
  have hkb : ∀ (ad : Addr), (0 < M ∧ kq = some ad) → ad.block < ob := fun ad hh => by
    rcases hKK with ⟨e, _⟩ | ⟨ad', cap', e, hb, _⟩
    · have := HM.out; rw [e] at this; simp at this; omega
    · cases e
      obtain ⟨_, e2⟩ := hh
      cases e2
      have := (hb (by have := HM.out; omega)).2
      omega
  clear hA0 hA1 hAV hKK hBB
  revert hA0' hA1' hA2 hAV' hB2 hKK'
  rw [hob]
  generalize w1.alloc (.cells #[.slice none 0 0, .int .i64 (-1), .bool false] 28) = w0
  intro hA2 hB2 hA0 hA1 hAV hKK
  have HA0 := Lib.hid hA0
  have HA1 := Lib.hid hA1
  have HA2 := Lib.hid hA2
  have HAV := Lib.hid hAV
  have HBB := Lib.hid hB2
  have HKK := Lib.hid hKK
  have HVL := Lib.hid hvl
  have HKB := Lib.hid hkb
  clear hA0 hA1 hA2 hAV hB2 hKK hvl hkb hob hb0
  go_loopw [6] (fun iv wr => ∃ (i : Nat) (qo : Option Addr) (m capo : Nat), i ≤ N ∧ iv = .int .i64 i ∧ Hid (Out wr ob qo m capo (-1) false (crashL (L.take i) ks)) ∧ Hid (m ≤ i) ∧ Hid (Below ob w0 wr)) (fun iv _ => N - (intOf iv).toNat)
  case atStart => exact ⟨0, none, 0, 0, by omega, rfl, HA2, Lib.hid (by omega), Lib.hid (Below.refl _ _)⟩
  case round =>
    obtain ⟨i, qo, m, capo, hi, rfl, HO, HMI, HB⟩ := hrel
    have HA0r : Hid (Blk wr b0 [.slice q N cap, .int .i64 fuse, .bool down] 28) := Lib.hid (HA0.out.below HB.out (by omega))
    have HA1r : Hid (Blk wr (b0 + 1) [.slice none 0 0, .int .i64 0, .bool false] 28) := Lib.hid (HA1.out.below HB.out (by omega))
    have a0 := HA0r.out.c 0 rfl
    by_cases hlt : i < N
    · have hil : i < L.length := by rw [HN.out]; exact hlt
      have hVr : Files wr base (.slice q N cap) L := HAV.out.keptF (G := fun j => ob ≤ j) ⟨HB.out.os, HB.out.tape, HB.out.output, HB.out.size, fun k hk hG => HB.out.block k (by omega)⟩ (fun g hg => by have := HVL.out g hg; omega)
      obtain ⟨ad, rfl, hab, -, hin⟩ := hVr.at i hil
      obtain ⟨f, hf⟩ : ∃ f, L[i] = f := ⟨_, rfl⟩
      rw [hf] at hin
      have hfl : f.lasts ≤ f.s.length ∧ f.s.length ≤ 4194304 := by rw [← hf]; exact HLA.out _ (List.getElem_mem hil)
      obtain ⟨left, hleft⟩ : ∃ x, keepAt ks i = x := ⟨_, rfl⟩
      have HT : Hid (crashL (L.take (i + 1)) ks = crashL (L.take i) ks ++ crashF f left) := Lib.hid (by rw [crash_take hil, hf, hleft])
      obtain ⟨K, hK⟩ : ∃ K, leftN f left = K := ⟨_, rfl⟩
      obtain ⟨n, hn⟩ : ∃ n, f.s.length = n := ⟨_, rfl⟩
      obtain ⟨la, hla⟩ : ∃ la, f.lasts = la := ⟨_, rfl⟩
      have hKK : K = min left.toNat (n - la) := by rw [← hK, ← hn, ← hla]; rfl
      have hsz := bs_size f.s
      rw [hn] at hsz hfl
      rw [hla] at hfl
      have hga := gone_is f left (by omega)
      rw [hla, hK] at hga
      have x0 := hin.c0
      have x1 := hin.c1
      have x2 := hin.c2
      have x3 := hin.c3
      rw [hla] at x2
      have HGA := Lib.hid hga
      have HLEFT := Lib.hid hleft
      have HKE := Lib.hid hK
      have HKK2 := Lib.hid hKK
      have HNE := Lib.hid hn
      have HLE := Lib.hid hla
      have HKI : Hid (Ints wr P (.slice kq M kcap) ks) := Lib.hid (by
        rcases HKK.out with h | ⟨ad', cap', hv, hbb, hh⟩
        · exact .inl h
        · refine .inr ⟨ad', cap', hv, fun h0 => ⟨(hbb h0).1, Nat.lt_of_lt_of_le (hbb h0).2 HB.out.size⟩, fun j hj => ?_⟩
          rw [World.cell?_of_block (w := w0) (a := ad'.add j) (HB.out.block _ (by rw [add_block]; cases hv; exact HKB.out _ ⟨by omega, rfl⟩))]
          exact hh j hj)
      clear hf hleft hK hn hla hKK hVr hin hil hab hga
      go_upto_region 6 with fail
      obtain ⟨c, hc⟩ : ∃ c, wr.heap.size = c := ⟨_, rfl⟩
      have hCB : Below wr.heap.size wr (wr.alloc (.cells #[.string (bs f.name), .string (bs f.s), .int .i64 (la : Int), .bool f.stays] 71)) := (Below.refl _ wr).alloc (Nat.le_refl _) _
      have hCC : Blk (wr.alloc (.cells #[.string (bs f.name), .string (bs f.s), .int .i64 (la : Int), .bool f.stays] 71)) c [.string (bs f.name), .string (bs f.s), .int .i64 (la : Int), .bool f.stays] 71 := Blk.at hc.symm [_, _, _, _] 71
      have hOO := HO.out.below hCB
      have hob := HO.out.self.lt
      have hBW : Below ob w0 (wr.alloc (.cells #[.string (bs f.name), .string (bs f.s), .int .i64 (la : Int), .bool f.stays] 71)) := HB.out.alloc (by omega) _
      have hKI := HKI.out.below hCB
      rw [hc]
      clear hCB a0 x0 x1 x2 x3 HO HB HKI HA0r HA1r
      rw [hc] at hob
      clear hc
      generalize wr.alloc (.cells #[.string (bs f.name), .string (bs f.s), .int .i64 (la : Int), .bool f.stays] 71) = wz at hCC hOO hBW hKI ⊢
      have HCC := Lib.hid hCC
      have HOO := Lib.hid hOO
      have HBW := Lib.hid hBW
      have HKI := Lib.hid hKI
      have c0 := hCC.c 0 rfl
      have c1 := hCC.c 1 rfl
      have c2 := hCC.c 2 rfl
      have c3 := hCC.c 3 rfl
      clear hCC hOO hBW hKI
      have HPM : Hid (0 < left → i < M) := Lib.hid (fun hp => by
        refine Decidable.byContradiction fun hm => ?_
        have := HLEFT.out
        unfold keepAt at this
        rw [List.getD_eq_getElem?_getD, List.getElem?_eq_none (by rw [HM.out]; omega)] at this
        simp at this
        omega)
      have HKC : Hid (i < M → ∃ ka, kq = some ka ∧ wz.cell? (ka.add i) = some (.int .i64 left)) := Lib.hid (fun hm => by
        have hik : i < ks.length := by rw [HM.out]; exact hm
        have hcell := HKI.out
        rw [← HM.out] at hcell
        obtain ⟨ka, rfl, hci⟩ := hcell.at i hik
        have e1 : ks[i] = left := by
          have := HLEFT.out
          unfold keepAt at this
          rw [List.getD_eq_getElem?_getD, List.getElem?_eq_getElem hik] at this
          exact this
        rw [e1] at hci
        exact ⟨ka, rfl, hci⟩)
      go_upto_region 7 with fail
      go_cut [33] from 16 to 75 (fun s33 wx => s33 = .bool (decide (0 < left)) ∧ wx = wz)
      case first =>
        by_cases hm : i < M
        · obtain ⟨ka, rfl, hci⟩ := HKC.out hm
          go_wp2_with fail
          go_meet
          exact ⟨rfl, rfl⟩
        · have d0 : decide ((i : Int) < (M : Int)) = false := by simp; omega
          have HTN : Hid (false = decide (0 < left)) := Lib.hid (by
            symm
            rw [decide_eq_false_iff_not]
            exact fun hp => hm (HPM.out hp))
          go_wp2_with fail
          go_meet
          exact ⟨congrArg _ HTN.out, rfl⟩
      case rest =>
      obtain ⟨rfl, rfl⟩ := hcut
      go_upto_if 33 with fail
      go_cut [8] from 16 to 75 (fun s8 wx => s8 = .int .i64 (left.toNat : Int) ∧ wx = wc)
      case first =>
        by_cases hp : 0 < left
        · have d1 : decide (0 < left) = true := by simp [hp]
          have hm := HPM.out hp
          obtain ⟨ka, rfl, hci⟩ := HKC.out hm
          have HTN : Hid (left = (left.toNat : Int)) := Lib.hid (by omega)
          go_wp2_with fail
          go_meet
          exact ⟨congrArg _ HTN.out, rfl⟩
        · have d1 : decide (0 < left) = false := by simp [hp]
          have HTN : Hid ((0 : Int) = (left.toNat : Int)) := Lib.hid (by omega)
          go_wp2_with fail
          go_meet
          exact ⟨congrArg _ HTN.out, rfl⟩
      case rest =>
        obtain ⟨rfl, rfl⟩ := hcut
        obtain ⟨X, hX⟩ : ∃ X, left.toNat = X := ⟨_, rfl⟩
        have hKX : K = min X (n - la) := by rw [← hX]; exact HKK2.out
        rw [hX]
        clear hX
        go_upto_if 45 with fail
        go_cut [8] from 16 to 75 (fun s8 wx => s8 = .int .i64 (K : Int) ∧ wx = wc)
        case first =>
          by_cases hb : n - la < X
          · have d1 : decide ((n : Int) - (la : Int) < (X : Int)) = true := by simp; omega
            have HTN : Hid ((n : Int) - (la : Int) = (K : Int)) := Lib.hid (by omega)
            have hbI : (n : Int) - (la : Int) < (X : Int) := by omega
            clear hb hKX d1
            go_wp2_with fail
            go_meet
            exact ⟨congrArg _ HTN.out, rfl⟩
          · have d1 : decide ((n : Int) - (la : Int) < (X : Int)) = false := by simp; omega
            have HTN : Hid ((X : Int) = (K : Int)) := Lib.hid (by omega)
            have hbI : ¬ ((n : Int) - (la : Int) < (X : Int)) := by omega
            clear hb hKX d1
            go_wp2_with fail
            go_meet
            exact ⟨congrArg _ HTN.out, rfl⟩
        case rest =>
          obtain ⟨rfl, rfl⟩ := hcut
          have hKn : la + K ≤ n := by omega
          clear hKX
          go_upto_region 12 with fail
          rw [bs_take]
          have hOL := HOO.out.len
          obtain ⟨A, hA⟩ : ∃ A, crashL (L.take i) ks = A := ⟨_, rfl⟩
          rw [hA] at HOO HT
          have hg2 : lastF (cutF f left) = ⟨f.name, f.s.take (la + K), la + K, true⟩ := by
            have e1 : (f.s.take (la + K)).length = la + K := by rw [List.length_take, HNE.out]; omega
            show Fl.mk f.name (f.s.take (f.lasts + leftN f left)) (f.s.take (f.lasts + leftN f left)).length true = _
            rw [HLE.out, HKE.out, e1]
          have HG2 := Lib.hid hg2
          obtain ⟨g, hg⟩ : ∃ g, f.s.take (la + K) = g := ⟨_, rfl⟩
          have hgl : g.length = la + K := by rw [← hg, List.length_take, HNE.out]; omega
          rw [hg] at HG2
          rw [hg]
          have hgs := bs_size g
          have hge := empty_eq g
          rw [hgl] at hgs hge
          obtain ⟨T, hT2⟩ : ∃ T, la + K = T := ⟨_, rfl⟩
          rw [hT2] at hgs hge HG2 HGA
          obtain ⟨G, hG⟩ : ∃ G, lastF (cutF f left) = G := ⟨_, rfl⟩
          have hGE : G = ⟨f.name, g, T, true⟩ := by rw [← hG]; exact HG2.out
          have HG3 := Lib.hid hG
          obtain ⟨st, hst⟩ : ∃ st, f.stays = st := ⟨_, rfl⟩
          rw [hst] at HGA HCC
          clear c0 c1 c2 c3
          have c0 := HCC.out.c 0 rfl
          have c1 := HCC.out.c 1 rfl
          have c2 := HCC.out.c 2 rfl
          have c3 := HCC.out.c 3 rfl
          have hobs := HOO.out.self.lt
          clear hOL hA hg2 hg hgl hG hst hT2 hKn
          subst hGE
          have HG2 := HG3
          by_cases h0 : T = 0
          · have hge0 : ((bs g).toList == []) = true := by rw [hge]; simp [h0]
            have hge1 : ((bs g).toList != []) = false := by rw [bne, hge0]; rfl
            cases st
            case false =>
              have HX : Hid (A = crashL (L.take (i + 1)) ks) := Lib.hid (by
                rw [HT.out]
                unfold crashF
                rw [if_pos (by rw [HGA.out]; simp [h0]), List.append_nil])
              clear h0 hge
              go_wp2_with fail
              refine ⟨⟨i + 1, qo, m, capo, by omega, by simp, ?_, Lib.hid (by have := HMI.out; omega), HBW⟩, ?_⟩
              · rw [← HX.out]; exact HOO
              · simp only [intOf]
                omega
            case true =>
              have hrow1 := (HOO.out.row.alloc (.cells #[.string (bs f.name), .string (bs g), .int .i64 (T : Int), .bool true] 71))
              unfold Files at hrow1
              rw [← HOO.out.len] at hrow1
              have ob1 := (HOO.out.self.alloc (.cells #[.string (bs f.name), .string (bs g), .int .i64 (T : Int), .bool true] 71)).c 0 rfl
              have o0 := HOO.out.self.c 0 rfl
              have HR1 := Lib.hid hrow1
              have hml : m ≤ 2000000 := by have := HMI.out; omega
              have hcz := HCC.out.lt
              have HX : Hid (A ++ [⟨f.name, g, T, true⟩] = crashL (L.take (i + 1)) ks) := Lib.hid (by
                rw [HT.out]
                unfold crashF
                rw [if_neg (by rw [HGA.out]; simp), HG2.out])
              clear hrow1 h0 hge
              go_wp2_with (at_builtin; refine wpList_append_lies _ rfl (.tmp 66) (.tmp 73) 26 rfl (ob + 1) 71 i0 _ 4 48 Try.underlying26 hi0 hz0 hz1 hz2 rfl (by decide) (.slice qo m capo) m (fls A) rfl HR1.out ⟨wc.heap.size, 0, none⟩ 1 1 (fcells ⟨f.name, g, T, true⟩) rfl rfl (news_of (w := wc) ⟨f.name, g, T, true⟩ wc.heap.size rfl) (fcells_one ⟨f.name, g, T, true⟩) (by decide) (by unfold maxLen; omega) (by omega) (by simp; omega) _ rfl ?_)
              intro g2 cap2 w3 hown hgr hat hlt3
              obtain ⟨p1, p2, p3⟩ := HOO.out.put ⟨f.name, g, T, true⟩ hown hgr
              have o3 := p1.c 0 rfl
              have f3 := p1.f 0
              have HO3 := Lib.hid p2
              have HB3 := Lib.hid (HBW.out.trans p3)
              clear p1 p2 p3 hown hgr hat ob1 o0
              go_wp2_with fail
              refine ⟨⟨i + 1, some ⟨g2, 0, none⟩, m + 1, cap2, by omega, by simp, ?_, Lib.hid (by have := HMI.out; omega), HB3⟩, ?_⟩
              · rw [← HX.out]; exact HO3
              · simp only [intOf]
                omega
          · have hge0 : ((bs g).toList == []) = false := by rw [hge]; simp [h0]
            have hge1 : ((bs g).toList != []) = true := by rw [bne, hge0]; rfl
            have hrow1 := (HOO.out.row.alloc (.cells #[.string (bs f.name), .string (bs g), .int .i64 (T : Int), .bool true] 71))
            unfold Files at hrow1
            rw [← HOO.out.len] at hrow1
            have ob1 := (HOO.out.self.alloc (.cells #[.string (bs f.name), .string (bs g), .int .i64 (T : Int), .bool true] 71)).c 0 rfl
            have o0 := HOO.out.self.c 0 rfl
            have HR1 := Lib.hid hrow1
            have hml : m ≤ 2000000 := by have := HMI.out; omega
            have hcz := HCC.out.lt
            have HX : Hid (A ++ [⟨f.name, g, T, true⟩] = crashL (L.take (i + 1)) ks) := Lib.hid (by
              rw [HT.out]
              unfold crashF
              rw [if_neg (by rw [HGA.out]; simp [h0]), HG2.out])
            clear hrow1 h0 hge
            go_wp2_with (at_builtin; refine wpList_append_lies _ rfl (.tmp 66) (.tmp 73) 26 rfl (ob + 1) 71 i0 _ 4 48 Try.underlying26 hi0 hz0 hz1 hz2 rfl (by decide) (.slice qo m capo) m (fls A) rfl HR1.out ⟨wc.heap.size, 0, none⟩ 1 1 (fcells ⟨f.name, g, T, true⟩) rfl rfl (news_of (w := wc) ⟨f.name, g, T, true⟩ wc.heap.size rfl) (fcells_one ⟨f.name, g, T, true⟩) (by decide) (by unfold maxLen; omega) (by omega) (by simp; omega) _ rfl ?_)
            intro g2 cap2 w3 hown hgr hat hlt3
            obtain ⟨p1, p2, p3⟩ := HOO.out.put ⟨f.name, g, T, true⟩ hown hgr
            have o3 := p1.c 0 rfl
            have f3 := p1.f 0
            have HO3 := Lib.hid p2
            have HB3 := Lib.hid (HBW.out.trans p3)
            clear p1 p2 p3 hown hgr hat ob1 o0
            go_wp2_with fail
            refine ⟨⟨i + 1, some ⟨g2, 0, none⟩, m + 1, cap2, by omega, by simp, ?_, Lib.hid (by have := HMI.out; omega), HB3⟩, ?_⟩
            · rw [← HX.out]; exact HO3
            · simp only [intOf]
              omega
    · obtain rfl : i = N := by omega
      have HX : Hid (crashL (L.take i) ks = crashL L ks) := Lib.hid (by rw [List.take_of_length_le (by rw [HN.out]; exact Nat.le_refl _)])
      have HRF := Lib.hid HO.out.row
      rw [HX.out] at HRF
      have o0 := HO.out.self.c 0 rfl
      have o1 := HO.out.self.c 1 rfl
      have o2 := HO.out.self.c 2 rfl
      have z0 := HA1r.out.c 0 rfl
      have z1 := HA1r.out.c 1 rfl
      have z2 := HA1r.out.c 2 rfl
      have k0 := HA1r.out.f 0
      have k1 := HA1r.out.f 1
      have k2 := HA1r.out.f 2
      have HWB := Lib.hid (HBB.out.trans (HB.out.mono (show b0 ≤ ob by omega)))
      go_wp2_with fail
      obtain ⟨e1, e2, e3⟩ := fin28 (fuse := -1) (down := false) HA1r.out HRF.out HWB.out (show b0 ≤ b0 + 1 by omega) (by omega) HB0.out
      exact bodyPost_ret (v := .agg #[.slice qo m capo, .int .i64 (-1), .bool false]) (ret28 rfl rfl e1) rfl ⟨_, rfl, e2, e3⟩
end Go.Proofs.Ytfkefppabjbbdaa
