/- The calls of a disk and of a file that write cells. -/
import Derived.Test.YtfkefppabjbbdaaE
namespace Go.Proofs.Ytfkefppabjbbdaa
open Go.RowKit Go.Maps
set_option linter.unusedVariables false
theorem grown_refl (w : World) (row : Option Nat) : w.grownBy w row := ⟨rfl, rfl, rfl, Nat.le_refl _, fun _ _ _ => rfl⟩
theorem grown_drewN {w w' : World} {row : Option Nat} (h : w.grownBy w' row) (n : Nat) : w.grownBy (w'.drewN n) row := ⟨h.os, h.tape, h.output, h.size, h.block⟩
theorem grown_drew {w w' : World} {row : Option Nat} (h : w.grownBy w' row) : w.grownBy w'.drew row := ⟨h.os, h.tape, h.output, h.size, h.block⟩
theorem Blk.drew {w : World} {b : Nat} {cs : List Value} {t : TypeId} (h : Blk w b cs t) : Blk w.drew b cs t := h
theorem Blk.drewN {w : World} {b : Nat} {cs : List Value} {t : TypeId} (h : Blk w b cs t) (n : Nat) : Blk (w.drewN n) b cs t := h
set_option maxRecDepth 100000 in
theorem down_any (w : World) (d : Nat) (down : Bool) (hc : w.cell? ⟨d, 3, none⟩ = some (.bool down)) :
    Calls Try.prog 24 #[.pointer (some ⟨d, 0, none⟩)] w fun e w' => e = .returned (.bool down) ∧ w' = w := by
  go_enter Try.func24, Try.ntmps24
  go_wp2
  go_ret
  exact ⟨rfl, rfl⟩
def armF (n : Int) : Int := max n (-1)
set_option maxRecDepth 100000 in
theorem arm_any {w : World} {F : Nat → Prop} {d B : Nat} {E : List Ent} {u fuse : Int} {down : Bool} (h : DiskM w F d B E u fuse down) (n : Int) :
    Calls Try.prog 23 #[.pointer (some ⟨d, 0, none⟩), .int .i64 n] w fun e w' => e = .returned (.tuple #[]) ∧ DiskM w' F d B E u (armF n) down ∧ w.grownBy w' (some d) := by
  have H := Lib.hid h
  have f2 := h.self.f 2
  have c2 := h.self.c 2 rfl
  clear h
  go_enter Try.func23, Try.ntmps23
  go_wp2_with fail
  go_end0
  exact ⟨rfl, H.out.setFuse _, grownBy_set _ _ _⟩
def burnF (f : Int) : Int := if f = -1 then -1 else if f = 0 then 0 else f - 1
def burnB (f : Int) (down : Bool) : Bool := if f = 0 then true else down
set_option maxRecDepth 100000 in
theorem step_any {w : World} {F : Nat → Prop} {d B : Nat} {E : List Ent} {u fuse : Int} {down : Bool} (h : DiskM w F d B E u fuse down) (hf : -1 ≤ fuse) (hf2 : fuse ≤ 9223372036854775807) :
    Calls Try.prog 40 #[.pointer (some ⟨d, 0, none⟩)] w fun e w' => e = .returned (.int .i64 (burnE fuse : Nat)) ∧ DiskM w' F d B E u (burnF fuse) (burnB fuse down) ∧ w.grownBy w' (some d) := by
  have H := Lib.hid h
  have c2 := h.self.c 2 rfl
  have f2 := h.self.f 2
  have c3 := h.self.c 3 rfl
  have f3 := h.self.f 3
  clear h
  by_cases h1 : fuse = -1
  · subst h1
    go_enter Try.func40, Try.ntmps40
    go_wp2_with fail
    go_ret
    exact ⟨rfl, H.out, grown_refl _ _⟩
  · by_cases h0 : fuse = 0
    · subst h0
      go_enter Try.func40, Try.ntmps40
      go_wp2_with fail
      go_ret
      exact ⟨rfl, H.out.setDown true, grownBy_set _ _ _⟩
    · have g1 : (fuse == -1) = false := by simp [h1]
      have g0 : (fuse == 0) = false := by simp [h0]
      obtain ⟨f', hf'⟩ : ∃ f', f' = fuse - 1 := ⟨_, rfl⟩
      have e1 : burnF fuse = f' := by unfold burnF; rw [if_neg h1, if_neg h0, hf']
      have e2 : burnB fuse down = down := by unfold burnB; rw [if_neg h0]
      have e3 : burnE fuse = 0 := by unfold burnE; rw [if_neg h0]
      rw [e1, e2, e3]
      subst hf'
      clear e1 e2 e3
      go_enter Try.func40, Try.ntmps40
      go_wp2_with fail
      go_ret
      exact ⟨rfl, H.out.setFuse _, grownBy_set _ _ _⟩
set_option maxRecDepth 100000 in
theorem last_any {w : World} {b : Nat} {q : Option Addr} {n cap : Nat} {la : Int} {st : Bool} (h : Blk w b [.slice q n cap, .int .i64 la, .bool st] 68) :
    Calls Try.prog 37 #[.pointer (some ⟨b, 0, none⟩)] w fun e w' => e = .returned (.tuple #[]) ∧ Blk w' b [.slice q n cap, .int .i64 n, .bool true] 68 ∧ w.grownBy w' (some b) := by
  have H := Lib.hid h
  have c0 := h.c 0 rfl
  have c1 := h.c 1 rfl
  have c2 := h.c 2 rfl
  have f1 := h.f 1
  have f2 := h.f 2
  have R1 : Hid (Blk ((w.setCell ⟨b, 1, none⟩ (.int .i64 n)).setCell ⟨b, 2, none⟩ (.bool true)) b [.slice q n cap, .int .i64 n, .bool true] 68) := Lib.hid ((h.set 1 (.int .i64 n)).set 2 (.bool true))
  have R2 : Hid (w.grownBy ((w.setCell ⟨b, 1, none⟩ (.int .i64 n)).setCell ⟨b, 2, none⟩ (.bool true)) (some b)) := Lib.hid ((grownBy_set w ⟨b, 1, none⟩ (.int .i64 n)).trans (grownBy_set _ ⟨b, 2, none⟩ (.bool true)))
  clear h H
  go_enter Try.func37, Try.ntmps37
  go_wp2_with fail
  go_end0
  exact ⟨rfl, R1.out, R2.out⟩
set_option maxRecDepth 100000 in
theorem cut_any {w : World} {b : Nat} {q : Option Addr} {n cap la K : Nat} {left : Int} {st : Bool} (h : Blk w b [.slice q n cap, .int .i64 la, .bool st] 68) (hla : la ≤ n) (hcap : n ≤ cap) (hn : n ≤ 1000000000) (hq : q = none → n = 0)
    (hK : K = min left.toNat (n - la)) :
    Calls Try.prog 36 #[.pointer (some ⟨b, 0, none⟩), .int .i64 left] w fun e w' => e = .returned (.int .i64 ((n - la - K : Nat))) ∧ Blk w' b [.slice q (la + K : Nat) cap, .int .i64 la, .bool st] 68 ∧ w.grownBy w' (some b) := by
  have H := Lib.hid h
  have c0 := h.c 0 rfl
  have c1 := h.c 1 rfl
  have c2 := h.c 2 rfl
  have f0 := h.f 0
  clear h
  have k1 : min (max left 0) ((n : Int) - (la : Int)) = (K : Int) := by omega
  have k2 : ((n - la - K : Nat) : Int) = (n : Int) - (la : Int) - (K : Int) := by omega
  have k3 : K ≤ n - la := by omega
  rw [k2]
  clear hK k2
  go_enter Try.func36, Try.ntmps36
  go_wp2_with fail
  go_quiet (fail)
  go_wp2_with fail
  go_region
  go_wp2_with fail
  go_ret
  exact ⟨rfl, (H.out.drewN _).set 0 _, (grown_drewN (grown_refl w _) _).trans (grownBy_set _ _ _)⟩
/-- What a file's bytes are, behind a cut. -/
theorem OwnB.take {w : World} {base n cap : Nat} {q : Option Addr} {l : List UInt8} (h : OwnB w base (.slice q n cap) l) (k : Nat) (hk : k ≤ l.length) : OwnB w base (.slice q k cap) (l.take k) := by
  have hlen : (l.take k).length = k := by rw [List.length_take]; omega
  unfold OwnB
  rw [hlen]
  refine ⟨by rw [u8s_len, hlen]; omega, ?_⟩
  rcases h.2 with ⟨hv, h0⟩ | ⟨g, cap', cur, hv, hb, hg, hc, hm, hs, ht⟩
  · cases hv
    obtain rfl : k = 0 := by omega
    exact .inl ⟨rfl, rfl⟩
  · cases hv
    refine .inr ⟨g, cap, cur, rfl, hb, hg, by omega, hm, hs, ?_⟩
    rw [Nat.mul_one] at ht ⊢
    have : cur.toList.take k = (cur.toList.take l.length).take k := by rw [List.take_take]; congr 1; omega
    rw [this, ht]
    unfold u8s
    rw [List.map_take]
set_option maxRecDepth 100000 in
theorem copied_any {w : World} {v : Value} {l : List UInt8} (hl : l.length ≤ 1000000000) (hv : Seen w w.heap.size v l) :
    Calls Try.prog 33 #[v] w fun e w' => ∃ u, e = .returned u ∧ OwnB w' w.heap.size u l ∧ (∃ g, u = .slice (some ⟨g, 0, none⟩) l.length l.length) ∧ Below w.heap.size w w' := by
  obtain ⟨i0, hi, hz0, hz1, hz2⟩ := info_parts info5
  obtain ⟨q, cap, rfl, hcap⟩ := hv.len
  have HV := Lib.hid hv
  clear hv
  obtain ⟨N, hN⟩ : ∃ N, l.length = N := ⟨_, rfl⟩
  rw [hN] at HV hl hcap ⊢
  have Hn := Lib.hid hN
  clear hN
  go_enter Try.func33, Try.ntmps33
  go_wp2_with (at_make; refine wpList_make_full _ rfl _ _ 31 rfl w.heap.size 5 i0 (.int .u8 0) 1 Try.underlying31 hi hz0 hz1 .i64 .i64 _ _ N rfl rfl ?c1 ?c2 ?c3 ?c4 ?c5 ?_)
  case c1 => omega
  case c2 => omega
  case c3 => rw [hz2]; omega
  case c4 => unfold maxLen; omega
  case c5 => exact Nat.le_refl _
  intro w2 hr2 hg2
  have hb2 : Below w.heap.size w w2 := (Below.refl _ w).grown hg2 (Nat.le_refl _) (fun k hk => by cases hk)
  obtain ⟨cur, hcur, hcs⟩ : ∃ cur : Array Value, w2.heap[w.heap.size]? = some (.cells cur 5 (0, 0)) ∧ cur.size = N := by
    rcases hr2.2 with ⟨hv, _⟩ | ⟨g', cap', cur, hv, _, hh, _, _, hc, _⟩
    · cases hv
    · cases hv; exact ⟨cur, hh, by omega⟩
  have HC : Hid (w2.heap[w.heap.size]? = some (.cells cur.toList.toArray 5 (0, 0))) := Lib.hid (by simpa using hcur)
  have hS := HV.out.below hb2 (Nat.le_refl _)
  have hpos : Hid (0 < (u8s l).length → (some ⟨w.heap.size, 0, none⟩ : Option Addr) = some ⟨w.heap.size, 0, none⟩ ∧ ∃ ad, q = some ad ∧ ∀ j v, (u8s l)[j]? = some v → w2.cell? (ad.add j) = some v) := Lib.hid (fun h0 => by
    rw [u8s_len] at h0
    obtain ⟨ad, hq, _, _⟩ := hS.at 0 h0
    refine ⟨rfl, ad, hq, fun j v hj => ?_⟩
    obtain ⟨hjl, rfl⟩ := u8s_of hj
    obtain ⟨ad', hq', _, hc⟩ := hS.at j hjl
    rw [hq] at hq'
    cases hq'
    exact hc)
  have HM : Hid ((u8s l).length = Nat.min N N) := Lib.hid (by rw [u8s_len, Hn.out]; show N = min N N; omega)
  clear hr2 hg2 hcur hS
  go_wp2_with (with_reducible (refine wpList_copy_splice rfl (.tmp 7) (.tmp 8) 31 31 rfl 5 Try.underlying31 (by kernel_rfl) _ _ _ _ _ _ rfl rfl w.heap.size 0 cur.toList 5 HC.out (u8s l) HM.out hpos.out ?d1 (u8s_one l) w.heap.size w hb2 (Nat.le_refl _) ?_))
  case d1 => rw [u8s_len, Hn.out]; simp
  intro w3 hg3 hb3
  have hsp : splice cur.toList 0 (u8s l) = u8s l := by
    unfold splice
    rw [List.drop_of_length_le (by rw [u8s_len, Hn.out]; simp [hcs])]
    simp
  have HO : Hid (OwnB w3 w.heap.size (.slice (some ⟨w.heap.size, 0, none⟩) N N) l) := by
    have hh := hg3.out
    rw [hsp] at hh
    unfold Hid OwnB
    rw [Hn.out]
    refine ⟨by rw [u8s_len, Hn.out]; omega, .inr ⟨w.heap.size, N, (u8s l).toArray, rfl, Nat.le_refl _, hh, Nat.le_refl _, by unfold maxLen; omega, ?_, ?_⟩⟩
    · simp [u8s_len, Hn.out]
    · rw [List.take_of_length_le (by simp [u8s_len, Hn.out])]
  clear hsp hg3
  go_wp2_with fail
  go_ret
  exact ⟨_, rfl, HO.out, ⟨_, rfl⟩, hb3⟩
end Go.Proofs.Ytfkefppabjbbdaa
