/- What is erased; the frames of entries. -/
import Derived.Test.YtghnbkkfghfifaaGreatDoorJd
namespace Go.Proofs.YtghnbkkfghfifaaGreatDoor
open Go.RowKit Go.Maps D
set_option linter.unusedVariables false
abbrev evV (e : Ev) : Value := .agg #[.string e.s, .int .i64 e.n, .int .i64 e.a, .int .i64 e.k, .string e.p, .string e.i, .int .i64 e.v, .string e.t]
set_option maxRecDepth 100000 in
theorem erased_zero (w : World) : Calls Tryz.prog 68 #[.agg #[.string ⟨#[]⟩, .int .i64 0, .int .i64 0, .int .i64 0, .string ⟨#[]⟩, .string ⟨#[]⟩, .int .i64 0, .string ⟨#[]⟩]] w fun e w' => e = .returned (.bool true) ∧ Below w.heap.size w w' := by
  go_enter Tryz.func68, Tryz.ntmps68
  go_wp2
  go_ret
  exact ⟨rfl, (Below.refl _ w).alloc (Nat.le_refl _) _⟩
set_option maxRecDepth 100000 in
theorem erased_may (s : ByteArray) (n a k : Int) (p i : ByteArray) (v : Int) (t : ByteArray) (hs : 1 ≤ s.size) (w : World) :
    Calls Tryz.prog 68 #[.agg #[.string s, .int .i64 n, .int .i64 a, .int .i64 k, .string p, .string i, .int .i64 v, .string t]] w fun e w' => e = .returned (.bool false) ∧ Below w.heap.size w w' := by
  have hne : ¬ s.toList = [] := by
    intro e
    rw [toL] at e
    have h3 : s.data.toList.length = s.size := rfl
    rw [e] at h3
    simp only [List.length_nil] at h3
    omega
  have h2 : (s.toList == []) = false := by simpa using hne
  clear hs
  go_enter Tryz.func68, Tryz.ntmps68
  go_wp2
  go_ret
  exact ⟨rfl, (Below.refl _ w).alloc (Nat.le_refl _) _⟩
theorem erased_ev {e : Ev} (h : OkE e) (w : World) : Calls Tryz.prog 68 #[evV e] w fun x w' => x = .returned (.bool (gone e)) ∧ Below w.heap.size w w' := by
  rcases h with rfl | h
  · exact erased_zero w
  · rw [gone_may h]
    exact erased_may _ _ _ _ _ _ _ _ (may_size h) w
theorem enc_ev {e : Ev} (h : E.mayB e = true) (w : World) (hL : E.Lay w) : Calls Tryz.prog 114 #[evV e] w fun x w' => ∃ u, x = .returned (.tuple #[u, .int .i64 0]) ∧ OwnB w' w.heap.size u (E.encL e) ∧ Below w.heap.size w w' := by
  have hf := E.fit_of h
  obtain ⟨s, n, a, k, p, i, v, t⟩ := e
  obtain ⟨n, rfl⟩ := Int.eq_ofNat_of_zero_le (show 0 ≤ n by have := hf.n.1; simp only at this; omega)
  obtain ⟨a, rfl⟩ := Int.eq_ofNat_of_zero_le hf.a.1
  obtain ⟨k, rfl⟩ := Int.eq_ofNat_of_zero_le hf.k.1
  obtain ⟨v, rfl⟩ := Int.eq_ofNat_of_zero_le hf.v.1
  exact E.enc_nat s n a k p i v t h w hL
theorem pay_short {e : Ev} (h : OkE e) : (pay e).length ≤ 400 := by
  rcases h with rfl | h
  · rw [pay_zero]; decide
  · rw [pay_may h]; exact E.encL_len e (E.fit_of h)
theorem seal_ev (u : Value) (l : List UInt8) (hl : l.length ≤ 65536) (w : World) (hv : Seen w w.heap.size u l) :
    Calls Tryz.prog 115 #[u] w fun e w' => ∃ x, e = .returned (.tuple #[x, .int .i64 0]) ∧ OwnB w' w.heap.size x (F.frameL l) ∧ Below w.heap.size w w' :=
  (F.seal_any u l hl w hv).mono fun _ _ ⟨h1, h2, h3⟩ => ⟨_, h1, h2.own, h3⟩
theorem ev_eta (e : Ev) : e = ⟨e.s, e.n, e.a, e.k, e.p, e.i, e.v, e.t⟩ := rfl
theorem append_seen {ops : Array Oper} {rest : List Oper} {o : Oper} {a : Act} {Q : Exit → Act → World → Prop} {w : World} (hgd : o.guard = none) (s x : Operand)
    (ho : o.op = .call { callee := .builtin .append, args := #[s, x], argTypes := #[38, 38] }) (base : Nat) (v : Value) (l : List UInt8) (hs : a.eval s = v) (hown : OwnB w base v l) (B : Nat) (xv : Value) (m : List UInt8) (hx : a.eval x = xv) (hsn : Seen w B xv m)
    (hlen : l.length + m.length ≤ 2000000000) (hbase : base ≤ w.heap.size) (C : Nat) (w0 : World) (hb : Below C w0 w) (hC : C ≤ base)
    (h : ∀ v' w', OwnB w' base v' (l ++ m) → Hid (Below C w0 w') → wpList Tryz.prog ops Q rest (a.put o.dst v') w') : wpList Tryz.prog ops Q (o :: rest) a w :=
  F.wpList_append_seen hgd s x ho base v l hs hown B xv m hx hsn hlen hbase C w0 hb hC h
set_option maxRecDepth 100000 in
set_option maxHeartbeats 1000000 in
theorem frames_any (bv : Value) (es : List Ev) (hok : ∀ e ∈ es, OkE e) (hle : es.length ≤ 100000) (w : World) (hv : E.Evs w w.heap.size bv es) (hL : E.Lay w) :
    Calls Tryz.prog 90 #[bv] w fun e w' => ∃ u, e = .returned u ∧ OwnB w' w.heap.size u (byt pay es) ∧ Below w.heap.size w w' := by
  obtain ⟨q, cap, rfl⟩ := hv.shape
  have HV := Lib.hid hv
  have HL := Lib.hid hL
  have HOK := Lib.hid hok
  clear hv hL hok
  obtain ⟨N, hN⟩ : ∃ N, es.length = N := ⟨_, rfl⟩
  rw [hN] at HV hle ⊢
  have HN := Lib.hid hN
  clear hN
  go_enter Tryz.func90, Tryz.ntmps90
  go_wp2_with fail
  go_loopw [3, 11] (fun u i wr => ∃ k : Nat, k ≤ N ∧ i = .int .i64 k ∧ OwnB wr w.heap.size u (byt pay (es.take k)) ∧ Below w.heap.size w wr) (fun _ i _ => N - (intOf i).toNat)
  case atStart => exact ⟨0, by omega, rfl, OwnB.nil _ _, Below.refl _ _⟩
  case round =>
    obtain ⟨k, hk, rfl, hown, hb⟩ := hrel
    by_cases hlt : k < N
    · have hke : k < es.length := by rw [HN.out]; exact hlt
      have hvr := HV.out.below hb (Nat.le_refl _)
      rw [← HN.out] at hvr
      obtain ⟨ad, rfl, hab, hc⟩ := hvr.at k hke
      have hokk := HOK.out _ (List.getElem_mem hke)
      have hstep : byt pay (es.take (k + 1)) = byt pay (es.take k) ++ F.frameL (pay es[k]) := by rw [List.take_succ_eq_append_getElem hke, byt_app, byt_one]
      have hshort := pay_short hokk
      have hlen := byt_len pay (l := es.take k) (fun x hx => pay_short (HOK.out _ (List.mem_of_mem_take hx)))
      rw [List.length_take] at hlen
      obtain ⟨ev, hev⟩ : ∃ ev, es[k] = ev := ⟨_, rfl⟩
      rw [hev] at hc hokk hstep hshort
      obtain ⟨s, n, a, kd, p, i, v, t⟩ := ev
      obtain ⟨c0, c1, c2, c3, c4, c5, c6, c7⟩ := hc
      simp only at c0 c1 c2 c3 c4 c5 c6 c7
      have HS := Lib.hid hstep
      have HH := Lib.hid hshort
      have HOW := Lib.hid hown
      have HB := Lib.hid hb
      have HLEN := Lib.hid hlen
      have hLr := HL.out.next hb
      have HLR := Lib.hid hLr
      clear hstep hshort hown hb hvr hlen hev hLr
      by_cases hg : gone (⟨s, n, a, kd, p, i, v, t⟩ : Ev) = true
      · have hz := hokk.isZ hg
        have HP : Hid (pay (⟨s, n, a, kd, p, i, v, t⟩ : Ev) = []) := Lib.hid (by rw [hz]; rfl)
        cases hz
        clear hokk hg
        go_wp2_with fail
        refine (erased_zero _).mono ?_
        rintro e w1 ⟨rfl, hb1⟩
        have HB1 := Lib.hid (HB.out.trans (((Below.refl _ wr).alloc (Nat.le_refl _) _).trans (hb1.mono (by simp)) |>.mono HB.out.size))
        have HO1 := Lib.hid ((HOW.out.alloc _).below hb1 (Nat.le_refl _))
        clear hb1 c0 c1 c2 c3 c4 c5 c6 c7
        go_wp2_with fail
        refine (seal_ev _ [] (by decide) _ (Seen.nil _ _)).mono ?_
        rintro e w2 ⟨x, rfl, hx, hb2⟩
        have HB2 := Lib.hid (HB1.out.trans (hb2.mono HB1.out.size))
        have HO2 := Lib.hid (HO1.out.below hb2 (Nat.le_refl _))
        have HX := Lib.hid (Seen.own hx)
        clear hb2 hx
        go_wp2_with (at_builtin; refine append_seen rfl (.tmp 28) (.tmp 29) rfl w.heap.size _ _ rfl HO2.out _ _ _ rfl HX.out ?c1 ?c2 w.heap.size w HB2.out (Nat.le_refl _) ?_)
        case c1 =>
          have := HLEN.out
          rw [F.frameL_len]
          simp only [List.length_nil]
          omega
        case c2 => exact HB2.out.size
        intro v2 w3 ho3 hb3
        rw [HP.out] at HS
        rw [← HS.out] at ho3
        go_wp2_with fail
        refine ⟨⟨k + 1, by omega, by go_num, ho3, hb3.out⟩, by simp only [intOf]; omega⟩
      · have hg' : gone (⟨s, n, a, kd, p, i, v, t⟩ : Ev) = false := by simpa using hg
        have HM := Lib.hid (hokk.isM hg')
        have HP := Lib.hid (pay_may HM.out)
        have hsz := may_size HM.out
        clear hokk hg hg'
        go_wp2_with fail
        refine (erased_may s n a kd p i v t hsz _).mono ?_
        rintro e w1 ⟨rfl, hb1⟩
        have e0 := heap_alloc_new wr (.cells #[.string s, .int .i64 n, .int .i64 a, .int .i64 kd, .string p, .string i, .int .i64 v, .string t] 52)
        have e1 : Hid (Blk w1 wr.heap.size [.string s, .int .i64 n, .int .i64 a, .int .i64 kd, .string p, .string i, .int .i64 v, .string t] 52) := Lib.hid ((Blk.new wr [.string s, .int .i64 n, .int .i64 a, .int .i64 kd, .string p, .string i, .int .i64 v, .string t] 52).below hb1 (by simp))
        have HB1 := Lib.hid (HB.out.trans (((Below.refl _ wr).alloc (Nat.le_refl _) _).trans (hb1.mono (by simp)) |>.mono HB.out.size))
        have HO1 := Lib.hid ((HOW.out.alloc _).below hb1 (Nat.le_refl _))
        have hl1 := HL.out.next HB1.out
        have HL1 := Lib.hid hl1
        have b0 := e1.out.c 0 rfl
        have b1 := e1.out.c 1 rfl
        have b2 := e1.out.c 2 rfl
        have b3 := e1.out.c 3 rfl
        have b4 := e1.out.c 4 rfl
        have b5 := e1.out.c 5 rfl
        have b6 := e1.out.c 6 rfl
        have b7 := e1.out.c 7 rfl
        clear hb1 c0 c1 c2 c3 c4 c5 c6 c7 e0 e1 hl1
        go_wp2_with fail
        refine (enc_ev HM.out _ HL1.out).mono ?_
        rintro e w1b ⟨pv, rfl, hpv, hbp⟩
        have HB1b := Lib.hid (HB1.out.trans (hbp.mono HB1.out.size))
        have HO1b := Lib.hid (HO1.out.below hbp (Nat.le_refl _))
        have HPV := Lib.hid (Seen.own hpv)
        clear hbp hpv b0 b1 b2 b3 b4 b5 b6 b7
        go_wp2_with fail
        refine (seal_ev _ (E.encL ⟨s, n, a, kd, p, i, v, t⟩) (by have := HH.out; rw [HP.out] at this; omega) _ HPV.out).mono ?_
        rintro e w2 ⟨x, rfl, hx, hb2⟩
        have HB2 := Lib.hid (HB1b.out.trans (hb2.mono HB1b.out.size))
        have HO2 := Lib.hid (HO1b.out.below hb2 (Nat.le_refl _))
        have HX := Lib.hid (Seen.own hx)
        clear hb2 hx
        go_wp2_with (at_builtin; refine append_seen rfl (.tmp 28) (.tmp 29) rfl w.heap.size _ _ rfl HO2.out _ _ _ rfl HX.out ?c1 ?c2 w.heap.size w HB2.out (Nat.le_refl _) ?_)
        case c1 =>
          have := HLEN.out
          have := HH.out
          rw [HP.out] at this
          rw [F.frameL_len]
          omega
        case c2 => exact HB2.out.size
        intro v2 w3 ho3 hb3
        rw [HP.out] at HS
        rw [← HS.out] at ho3
        go_wp2_with fail
        refine ⟨⟨k + 1, by omega, by go_num, ho3, hb3.out⟩, by simp only [intOf]; omega⟩
    · obtain rfl : k = N := by omega
      have e : es.take k = es := List.take_of_length_le (by rw [HN.out]; exact Nat.le_refl _)
      rw [e] at hown
      have HOW := Lib.hid hown
      clear hown e
      go_wp2_with fail
      go_ret
      exact ⟨_, rfl, HOW.out, hb⟩
end Go.Proofs.YtghnbkkfghfifaaGreatDoor
