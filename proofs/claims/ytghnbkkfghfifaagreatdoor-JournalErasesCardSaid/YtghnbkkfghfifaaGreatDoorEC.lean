/- What the library's and the program's own variables hold; makers and tags: the program's and the reference's. -/
import Derived.Test.YtghnbkkfghfifaaGreatDoorEB
import Derived.Test.YtghnbkkfghfifaaGreatDoorS
import Derived.WalkLawsBesides
import Derived.WalkSpells
import Derived.WalkSmall
import Derived.Lib.LaidTab
import Derived.Deep.QuietTactic
import Derived.BigQuiet
namespace Go.Proofs.YtghnbkkfghfifaaGreatDoor.E
open Go.RowKit
set_option linter.unusedVariables false
/-- A row of the table of kinds. -/
structure KRow where
  word : List UInt8
  per : Bool
  item : Bool
  lo : Int
  hi : Int
  tx : Int
def kRows : List KRow := [⟨[115, 101, 101, 110], true, true, 0, 0, 0⟩, ⟨[111, 112, 101, 110, 101, 100], true, true, 0, 0, 0⟩, ⟨[102, 105, 110, 105, 115, 104, 101, 100], true, true, 0, 0, 0⟩, ⟨[98, 111, 117, 103, 104, 116], true, true, 0, 0, 0⟩, ⟨[114, 97, 116, 101, 100], true, true, 1, 5, 0⟩, ⟨[104, 105, 100, 100, 101, 110], true, true, 0, 0, 0⟩, ⟨[117, 110, 104, 105, 100, 100, 101, 110], true, true, 0, 0, 0⟩, ⟨[102, 111, 108, 108, 111, 119, 101, 100], true, false, 0, 0, 1⟩, ⟨[117, 110, 102, 111, 108, 108, 111, 119, 101, 100], true, false, 0, 0, 1⟩, ⟨[109, 117, 116, 101, 100], true, false, 0, 0, 1⟩, ⟨[117, 110, 109, 117, 116, 101, 100], true, false, 0, 0, 1⟩, ⟨[108, 105, 115, 116, 101, 100], false, true, 0, 1048576, 2⟩, ⟨[115, 116, 111, 99, 107, 101, 100], false, true, 0, 1048576, 0⟩, ⟨[100, 101, 108, 105, 115, 116, 101, 100], false, true, 0, 0, 0⟩, ⟨[102, 111, 114, 103, 111, 116, 116, 101, 110], true, false, 0, 0, 0⟩]
def kR (k : Nat) : KRow := kRows.getD k ⟨[], false, false, 0, 0, 0⟩
/-- What the walks ask of the variables. -/
structure Lay (w : World) : Prop where
  sz : 7 ≤ w.heap.size
  row : ∀ k, k < 15 → w.cell? ⟨0, k * 6, none⟩ = some (.string (bs (kR k).word)) ∧ w.cell? ⟨0, k * 6 + 1, none⟩ = some (.bool (kR k).per) ∧ w.cell? ⟨0, k * 6 + 2, none⟩ = some (.bool (kR k).item) ∧ w.cell? ⟨0, k * 6 + 3, none⟩ = some (.int .i64 (kR k).lo) ∧ w.cell? ⟨0, k * 6 + 4, none⟩ = some (.int .i64 (kR k).hi) ∧ w.cell? ⟨0, k * 6 + 5, none⟩ = some (.int .i64 (kR k).tx)
  max : ∃ m, w.cell? ⟨2, 0, none⟩ = some (.int .i64 m)
  tab : Lib.TabIs Tryz.prog w "internal/strconv.uint64pow10" .u64 Lib.pow10Tab
theorem g_tab : Tryz.prog.globalNamed "internal/strconv.uint64pow10" = some 1 := by kernel_rfl
theorem Lay.below {w w' : World} (h : Lay w) {B : Nat} (hb : Below B w w') (hB : 7 ≤ B) : Lay w' := by
  have c : ∀ o, w'.cell? ⟨0, o, none⟩ = w.cell? ⟨0, o, none⟩ := fun o => hb.cell (p := ⟨0, o, none⟩) (by show 0 < B; omega)
  have c1 : ∀ o, w'.cell? ⟨2, o, none⟩ = w.cell? ⟨2, o, none⟩ := fun o => hb.cell (p := ⟨2, o, none⟩) (by show 2 < B; omega)
  refine ⟨Nat.le_trans h.sz hb.size, fun k hk => ?_, ?_, ?_⟩
  · rw [c, c, c, c, c, c]; exact h.row k hk
  · obtain ⟨m, hm⟩ := h.max; exact ⟨m, by rw [c1, hm]⟩
  · exact var?_below hb g_tab (by omega) h.tab
theorem Lay.next {w w' : World} (h : Lay w) (hb : Below w.heap.size w w') : Lay w' := h.below hb h.sz
theorem below_drewN {B : Nat} {a w : World} (h : Below B a w) (n : Nat) : Below B a (w.drewN n) := ⟨h.os, h.tape, h.output, h.size, h.block⟩
/-- A list of texts that a value reads as. -/
def Strs (w : World) (v : Value) (xs : List ByteArray) : Prop := (xs = [] ∧ ∃ a c, v = .slice a 0 c) ∨ (∃ b c, b < w.heap.size ∧ xs.length ≤ c ∧ v = .slice (some ⟨b, 0, none⟩) xs.length c ∧ ∀ i x, xs[i]? = some x → w.cell? ⟨b, i, none⟩ = some (.string x))
theorem Strs.below {w w' : World} {v : Value} {xs : List ByteArray} (h : Strs w v xs) (hb : Below w.heap.size w w') : Strs w' v xs := by
  rcases h with h | ⟨b, c, hl, hc, hv, hx⟩
  · exact .inl h
  · exact .inr ⟨b, c, Nat.lt_of_lt_of_le hl hb.size, hc, hv, fun i x hi => by rw [hb.cell (p := ⟨b, i, none⟩) hl]; exact hx i x hi⟩
theorem Strs.of_own {w : World} {base : Nat} {v : Value} {xs : List ByteArray} (h : w.ownsRow base 9 1 v xs.length (xs.map Value.string)) : Strs w v xs := by
  obtain ⟨h1, h2⟩ := h
  rcases h2 with ⟨rfl, hn⟩ | ⟨g, cap, cur, rfl, hg, hh, hcap, hm, hs, ht⟩
  · exact .inl ⟨List.length_eq_zero_iff.1 hn, _, _, rfl⟩
  · refine .inr ⟨g, cap, lt_of_block hh, hcap, rfl, fun i x hi => ?_⟩
    have hil : i < xs.length := (List.getElem?_eq_some_iff.1 hi).1
    have e : cur.toList[i]? = some (.string x) := by
      have := congrArg (fun l : List Value => l[i]?) ht
      simp only [List.getElem?_take, List.getElem?_map, hi] at this
      rw [if_pos (by omega)] at this
      simpa using this
    simp [World.cell?, hh]
    simpa using e
/-- The place of the first ;. -/
theorem place_any (s : ByteArray) (hs : s.size ≤ 4000000000) (w : World) :
    Calls Tryz.prog 85 #[.string s] w fun e w' => e = .returned (.int .i64 (Lib.indexByte s.data.toList 59)) ∧ w = w' := by
  obtain ⟨r, hr⟩ : ∃ r, Lib.indexByte s.data.toList 59 = r := ⟨_, rfl⟩
  rw [hr]
  have HR := Lib.hid hr
  clear hr
  go_enter Tryz.func85, Tryz.ntmps85
  go_wp2
  go_loop [3] (fun i => ∃ k : Nat, k ≤ s.size ∧ i = .int .i64 k ∧ Hid (∀ j, j < k → s.data.toList[j]? ≠ some 59)) (fun i => s.size - (intOf i).toNat)
  case atStart => exact ⟨0, Nat.zero_le _, rfl, fun j hj => by omega⟩
  case round =>
    obtain ⟨k, hk, rfl, HA⟩ := hrel
    by_cases hlt : k < s.size
    · have hget := Lib.hid (show s.data.toList[k]? = some s[k] by rw [List.getElem?_eq_getElem (by simpa using hlt)]; rfl)
      by_cases hc : s[k] = 59
      · have e : r = k := by
          rw [← HR.out]
          exact idx_of k (by rw [hget.out, hc]) HA.out
        have t : (((s[k]).toNat : Int) == 59) = true := by rw [hc]; rfl
        clear hc
        subst e
        go_wp2
        go_ret
        exact ⟨rfl, rfl⟩
      · have t : (((s[k]).toNat : Int) == 59) = false := by
          have : (s[k]).toNat ≠ 59 := fun e => hc (UInt8.toNat_inj.1 e)
          simp; omega
        have HC := Lib.hid hc
        clear hc
        go_wp2
        go_round
        case rel =>
          refine ⟨k + 1, by omega, by go_num, fun j hj => ?_⟩
          rcases Nat.lt_or_ge j k with h | h
          · exact HA.out j h
          · obtain rfl : j = k := by omega
            rw [hget.out]
            exact fun e => HC.out (Option.some.inj e)
        case measure => simp [intOf]; omega
    · obtain rfl : k = s.size := by omega
      have e : r = -1 := by
        rw [← HR.out]
        exact idx_no HA.out
      subst e
      go_wp2
      go_ret
      exact ⟨rfl, rfl⟩
end Go.Proofs.YtghnbkkfghfifaaGreatDoor.E
