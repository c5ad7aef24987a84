/- Makers and tags: the program's and the reference's. -/
import Derived.Test.YtghnbkkfghfifaaGreatDoorEC
namespace Go.Proofs.YtghnbkkfghfifaaGreatDoor.E
open Go.RowKit
set_option linter.unusedVariables false
theorem cut_bs (s : ByteArray) : (⟨(Lib.cut s.data.toList (ByteArray.mk #[59]).data.toList).1.toArray⟩ : ByteArray) = mkB s ∧ (⟨(Lib.cut s.data.toList (ByteArray.mk #[59]).data.toList).2.1.toArray⟩ : ByteArray) = tlB s := ⟨rfl, rfl⟩
theorem cut_any (s : ByteArray) (hs : s.size ≤ 4000000000) (w : World) (hL : Lay w) :
    Calls Tryz.prog 144 #[.string s, .string ⟨#[59]⟩] w fun e w' => ∃ b, e = .returned (.tuple #[.string (mkB s), .string (tlB s), .bool b]) ∧ Below w.heap.size w w' := by
  obtain ⟨m, hm⟩ := hL.max
  refine (Tryz.strings_Cut s ⟨#[59]⟩ m w (by omega) hm).mono ?_
  rintro e w' ⟨rfl, n, rfl⟩
  exact ⟨_, rfl, below_drewN (Below.refl _ _) n⟩
theorem maker_any (s : ByteArray) (hs : s.size ≤ 4000000000) (w : World) (hL : Lay w) :
    Calls Tryz.prog 129 #[.string s] w fun e w' => e = .returned (.string (mkB s)) ∧ Below w.heap.size w w' := by
  have HL := Lib.hid hL
  clear hL
  go_enter Tryz.func129, Tryz.ntmps129
  go_wp2_with fail
  refine (cut_any s hs _ HL.out).mono ?_
  rintro e w' ⟨b, rfl, hb⟩
  go_wp2
  go_ret
  exact ⟨rfl, hb⟩
theorem rmaker_any (s : ByteArray) (hs : s.size ≤ 4000000000) (w : World) :
    Calls Tryz.prog 86 #[.string s] w fun e w' => e = .returned (.string (mkB s)) ∧ w = w' := by
  rcases idx_cases 59 s.data.toList with e | ⟨i, e⟩
  · have HE := Lib.hid e
    rw [(cut_no e).1]
    clear e
    go_enter Tryz.func86, Tryz.ntmps86
    go_wp2_with fail
    refine (place_any s hs _).mono ?_
    rw [HE.out]
    rintro e w' ⟨rfl, rfl⟩
    go_wp2
    go_ret
    exact ⟨rfl, rfl⟩
  · have HE := Lib.hid e
    have hi := idx_lt e
    rw [(cut_yes e).1]
    clear e
    go_enter Tryz.func86, Tryz.ntmps86
    go_wp2_with fail
    refine (place_any s hs _).mono ?_
    rw [HE.out]
    rintro e w' ⟨rfl, rfl⟩
    go_wp2
    go_ret
    exact ⟨rfl, rfl⟩
theorem strs_lit (w : World) (xs : List ByteArray) (h : xs.length ≤ 4294967296) : Strs (w.alloc (.cells (xs.map Value.string).toArray 9)) (.slice (some ⟨w.heap.size, 0, none⟩) xs.length xs.length) xs := by
  refine .inr ⟨w.heap.size, xs.length, by simp, Nat.le_refl _, rfl, fun i x hi => ?_⟩
  have h0 := heap_alloc_new w (.cells (xs.map Value.string).toArray 9)
  unfold World.cell?
  rw [h0]
  simp [hi]
theorem tags_any (s : ByteArray) (hs : s.size ≤ 4000000000) (w : World) (hL : Lay w) :
    Calls Tryz.prog 131 #[.string s] w fun e w' => ∃ v, e = .returned v ∧ Strs w' v (tagsB s) ∧ Below w.heap.size w w' := by
  have HL := Lib.hid hL
  clear hL
  by_cases hz : (tlB s).size = 0
  · rw [tags_nil hz]
    have t1 : (tlB s).toList = [] := by rw [toL, List.eq_nil_iff_length_eq_zero]; simpa using hz
    have t2 : (!(tlB s).toList.isEmpty) = false := by rw [t1]; rfl
    clear hz
    go_enter Tryz.func131, Tryz.ntmps131
    go_wp2_with fail
    refine (cut_any s hs _ HL.out).mono ?_
    rintro e w' ⟨b, rfl, hb⟩
    go_wp2_with fail
    go_ret
    exact ⟨_, rfl, .inl ⟨rfl, _, _, rfl⟩, hb⟩
  · rw [tags_some hz]
    have t1 : (tlB s).toList.isEmpty = false := by
      cases h : (tlB s).toList with
      | nil => rw [toL] at h; exact absurd (by have := congrArg List.length h; simpa using this) hz
      | cons a l => rfl
    have hsz := tlB_size s
    have hp := parts_le 44 (tlB s).data.toList
    clear hz
    go_enter Tryz.func131, Tryz.ntmps131
    go_wp2_with fail
    refine (cut_any s hs _ HL.out).mono ?_
    rintro e w1 ⟨b, rfl, hb⟩
    obtain ⟨m, hm⟩ := (HL.out.next hb).max
    have HM := Lib.hid hm
    clear hm
    go_wp2_with fail
    refine (Tryz.strings_Split (tlB s) ⟨#[44]⟩ m _ (by omega) HM.out (by decide)).mono ?_
    rw [split_all, countB_parts]
    rintro e w2 ⟨rfl, rfl⟩
    go_wp2_with fail
    go_ret
    exact ⟨_, rfl, strs_lit _ _ (by rw [partsB_length]; have : (tlB s).data.toList.length = (tlB s).size := by simp
                                    omega), (hb.alloc hb.size _)⟩
/-- How far Parts has come: k bytes are read, the piece at hand begins at fr, the others are o. -/
structure PI (c : UInt8) (s : ByteArray) (k fr : Nat) (o : List ByteArray) : Prop where
  le : fr ≤ k
  out : o = (pF c ([], []) (s.data.toList.take k)).1.map bs
  cur : s.extract fr k = bs (pF c ([], []) (s.data.toList.take k)).2
theorem PI.zero (c : UInt8) (s : ByteArray) : PI c s 0 0 [] := ⟨Nat.le_refl _, by simp [pF], by apply ba_ext; rw [bs_data]; simp [pF]⟩
theorem ext_self (s : ByteArray) (k : Nat) : s.extract k k = bs [] := by apply ba_ext; rw [bs_data]; simp
theorem ext_succ (s : ByteArray) (a k : Nat) (h : a ≤ k) (hk : k < s.size) : (s.extract a (k + 1)).data.toList = (s.extract a k).data.toList ++ [s[k]] := by
  have h1 : ∀ b, (s.extract a b).data.toList = (s.data.toList.take b).drop a := fun b => by simp [List.extract_eq_take_drop, List.drop_take]
  rw [h1, h1, take_snoc s k hk, List.drop_append]
  have : (s.data.toList.take k).length = k := by rw [List.length_take]; have : s.data.toList.length = s.size := by simp
                                                 omega
  rw [this, Nat.sub_eq_zero_of_le h]; rfl
theorem PI.hit {c : UInt8} {s : ByteArray} {k fr : Nat} {o : List ByteArray} (h : PI c s k fr o) (hk : k < s.size) (hc : s[k] = c) : PI c s (k + 1) (k + 1) (o ++ [s.extract fr k]) := by
  have e := pF_snoc c ([], []) (s.data.toList.take k) s[k]
  rw [if_pos hc] at e
  refine ⟨Nat.le_refl _, ?_, ?_⟩
  · rw [take_snoc s k hk, e, h.cur, h.out]; simp
  · rw [take_snoc s k hk, e, ext_self]
theorem PI.go {c : UInt8} {s : ByteArray} {k fr : Nat} {o : List ByteArray} (h : PI c s k fr o) (hk : k < s.size) (hc : s[k] ≠ c) : PI c s (k + 1) fr o := by
  have e := pF_snoc c ([], []) (s.data.toList.take k) s[k]
  rw [if_neg hc] at e
  have hl := h.le
  refine ⟨by omega, ?_, ?_⟩
  · rw [take_snoc s k hk, e]; exact h.out
  · apply ba_ext
    rw [take_snoc s k hk, e, ext_succ s fr k h.le hk, bs_data]
    simp only
    rw [← bs_data (pF c ([], []) (s.data.toList.take k)).2, ← h.cur]
theorem PI.done {c : UInt8} {s : ByteArray} {fr : Nat} {o : List ByteArray} (h : PI c s s.size fr o) : partsB c s = o ++ [s.extract fr s.size] := by
  have e : s.data.toList.take s.size = s.data.toList := List.take_of_length_le (by simp)
  rw [h.cur, h.out, e]
  unfold partsB parts
  simp
theorem PI.length {c : UInt8} {s : ByteArray} {k fr : Nat} {o : List ByteArray} (h : PI c s k fr o) : o.length ≤ k := by
  have h1 := parts_le c (s.data.toList.take k)
  unfold parts at h1
  rw [h.out, List.length_map]
  rw [List.length_append, List.length_take, List.length_singleton] at h1
  omega
theorem info9 : (Tryz.prog.info? 9).map (fun i => (i.zero, i.size, i.bytes)) = some (some (.string ⟨#[]⟩), 1, 16) := by kernel_rfl
theorem cell_one (w : World) (x : Value) (t : TypeId) : ∀ (j : Nat) (u : Value), [x][j]? = some u → (w.alloc (.cells #[x] t)).cell? ((⟨w.heap.size, 0, none⟩ : Addr).add j) = some u := by
  intro j u hj
  match j, hj with
  | 0, hj =>
    simp at hj; subst hj
    exact cell_of_one (heap_alloc_new w (.cells #[x] t))
theorem own_lit0 (w : World) (t : TypeId) : (w.alloc (.cells #[] t)).ownsRow w.heap.size t 1 (.slice (some ⟨w.heap.size, 0, none⟩) 0 0) 0 [] :=
  ⟨rfl, .inr ⟨w.heap.size, 0, #[], rfl, Nat.le_refl _, heap_alloc_new w _, Nat.le_refl _, Nat.zero_le _, rfl, rfl⟩⟩
theorem own_base {w : World} {base base' : Nat} {e : TypeId} {size : Nat} {v : Value} {n : Nat} {xs : List Value} (h : w.ownsRow base e size v n xs) (hb : base' ≤ base) : w.ownsRow base' e size v n xs := by
  obtain ⟨h1, h2⟩ := h
  refine ⟨h1, ?_⟩
  rcases h2 with h2 | ⟨g, cap, cur, hv, hg, r⟩
  · exact .inl h2
  · exact .inr ⟨g, cap, cur, hv, Nat.le_trans hb hg, r⟩
theorem own_block {w : World} {base : Nat} {e : TypeId} {size : Nat} {v : Value} {n : Nat} {xs : List Value} (h : w.ownsRow base e size v n xs) : ∀ k, v.ownBlock = some k → base ≤ k := by
  intro k hk
  obtain ⟨h1, h2⟩ := h
  rcases h2 with ⟨rfl, _⟩ | ⟨g, cap, cur, rfl, hg, r⟩
  · cases hk
  · cases hk; exact hg
set_option maxHeartbeats 400000 in
set_option maxRecDepth 100000 in
theorem parts_any (s : ByteArray) (c : UInt8) (hs : s.size ≤ 4000000000) (w : World) :
    Calls Tryz.prog 111 #[.string s, .int .u8 c.toNat] w fun e w' => ∃ v, e = .returned v ∧ w'.ownsRow w.heap.size 9 1 v (partsB c s).length ((partsB c s).map Value.string) ∧ Below w.heap.size w w' := by
  obtain ⟨i0, hi, hz0, hz1, hz2⟩ := info_parts info9
  go_enter Tryz.func111, Tryz.ntmps111
  go_wp2
  go_loopw [5, 6, 7] (fun v fr i wr => ∃ (k f : Nat) (o : List ByteArray), i = .int .i64 k ∧ fr = .int .i64 f ∧ k ≤ s.size + 1 ∧ Hid ((k ≤ s.size ∧ PI c s k f o) ∨ (k = s.size + 1 ∧ o = partsB c s)) ∧ f ≤ s.size + 1 ∧ wr.ownsRow w.heap.size 9 1 v o.length (o.map Value.string) ∧ Below w.heap.size w wr) (fun _ _ i _ => s.size + 1 - (intOf i).toNat)
  case atStart => exact ⟨0, 0, [], rfl, rfl, by omega, .inl ⟨by omega, PI.zero c s⟩, by omega, own_lit0 w 9, (Below.refl _ _).alloc (by simp) _⟩
  case round =>
    obtain ⟨k, f, o, rfl, rfl, hk, HP, hf, hown, hb⟩ := hrel
    rcases HP.out with ⟨h1, hp⟩ | ⟨h1, h2⟩
    · have hfk := hp.le
      have hol := hp.length
      by_cases hlt : k < s.size
      · by_cases hc : s[k] = c
        · have HN := Lib.hid (hp.hit hlt hc)
          have t : (((s[k]).toNat : Int) == c.toNat) = true := by rw [hc]; simp
          have t2 : ((k : Int) == s.size) = false := by simp; omega
          clear hc HP h1 hp
          go_wp2_with (at_builtin; refine wpList_append_own _ rfl _ _ 34 rfl w.heap.size 9 i0 (.string ⟨#[]⟩) 1 16 Tryz.underlying34 hi hz0 hz1 hz2 rfl (by decide) _ _ _ rfl (hown.alloc _) ⟨wr.heap.size, 0, none⟩ 1 1 [.string (s.extract f k)] rfl rfl ?c1A ?c2A ?c3A ?c4A ?c5A ?_)
          case c1A => exact cell_one _ _ _
          case c2A => intro u hu; simp at hu; subst hu; rfl
          case c3A => unfold maxLen; omega
          case c4A => omega
          case c5A => have := hb.size; simp; omega
          intro v' w2 hown' hgrow' _
          have hb2 := (hb.alloc hb.size _).grown hgrow' (by have := hb.size; simp; omega) (own_block hown)
          clear hown hgrow'
          go_wp2
          go_roundw
          case rel => exact ⟨k + 1, k + 1, o ++ [s.extract f k], by go_num, by go_num, by omega, .inl ⟨by omega, HN.out⟩, by omega, by simpa using hown', hb2⟩
          case measure => simp [intOf]; omega
        · have HN := Lib.hid (hp.go hlt hc)
          have t : (((s[k]).toNat : Int) == c.toNat) = false := by
            have : (s[k]).toNat ≠ c.toNat := fun e => hc (UInt8.toNat_inj.1 e)
            simp; omega
          have t2 : ((k : Int) == s.size) = false := by simp; omega
          clear hc HP h1 hp
          go_wp2
          go_roundw
          case rel => exact ⟨k + 1, f, o, by go_num, rfl, by omega, .inl ⟨by omega, HN.out⟩, by omega, hown, hb⟩
          case measure => simp [intOf]; omega
      · obtain rfl : k = s.size := by omega
        have HN := Lib.hid hp.done
        clear HP h1 hp
        go_wp2_with (at_builtin; refine wpList_append_own _ rfl _ _ 34 rfl w.heap.size 9 i0 (.string ⟨#[]⟩) 1 16 Tryz.underlying34 hi hz0 hz1 hz2 rfl (by decide) _ _ _ rfl (hown.alloc _) ⟨wr.heap.size, 0, none⟩ 1 1 [.string (s.extract f s.size)] rfl rfl ?c1B ?c2B ?c3B ?c4B ?c5B ?_)
        case c1B => exact cell_one _ _ _
        case c2B => intro u hu; simp at hu; subst hu; rfl
        case c3B => unfold maxLen; omega
        case c4B => omega
        case c5B => have := hb.size; simp; omega
        intro v' w2 hown' hgrow' _
        have hb2 := (hb.alloc hb.size _).grown hgrow' (by have := hb.size; simp; omega) (own_block hown)
        clear hown hgrow'
        go_wp2
        go_roundw
        case rel => exact ⟨s.size + 1, s.size + 1, o ++ [s.extract f s.size], by go_num, by go_num, by omega, .inr ⟨by omega, HN.out.symm⟩, by omega, by simpa using hown', hb2⟩
        case measure => simp [intOf]
    · subst h1
      have HN := Lib.hid h2
      clear HP h2
      go_wp2
      go_ret
      rw [← HN.out]
      exact ⟨_, rfl, hown, hb⟩
end Go.Proofs.YtghnbkkfghfifaaGreatDoor.E
