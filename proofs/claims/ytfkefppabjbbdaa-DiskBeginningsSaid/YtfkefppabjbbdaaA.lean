/- Bytes in memory: those that a slice shows, those that a call owns. -/
import Derived.Test.YtfkefppabjbbdaaProg
import Derived.WalkKit
import Derived.LoopTactic
import Derived.Lib.Hide
import Derived.Lib.AppendStr
import Derived.Lib.Strings
import Derived.WalkLawsBesides
import Derived.WalkSpells
import Derived.WalkSmall
import Derived.Deep.QuietTactic
import Derived.BigQuiet
import Derived.Outline
import Derived.BigGuardPart
import Derived.Deep.AppendLies
import Derived.Deep.MidRow
import Derived.Deep.RegionLaw
import Derived.Laws.AppendOwnNone
import Derived.Laws.CopyOwn
namespace Go.Proofs.Ytfkefppabjbbdaa
open Go.RowKit
set_option linter.unusedVariables false
/-- A list of bytes as a text. -/
def bs (l : List UInt8) : ByteArray := ⟨l.toArray⟩
theorem bs_data (l : List UInt8) : (bs l).data.toList = l := by simp [bs]
theorem data_bs (s : ByteArray) : bs s.data.toList = s := by simp [bs]
theorem bs_size (l : List UInt8) : (bs l).size = l.length := by simp [bs, ByteArray.size]
theorem bs_inj {a b : List UInt8} (h : bs a = bs b) : a = b := by rw [← bs_data a, ← bs_data b, h]
theorem toL (s : ByteArray) : s.toList = s.data.toList := ByteArray.toList_eq s
theorem bs_toList (l : List UInt8) : (bs l).toList = l := by rw [toL, bs_data]
theorem info5 : (Try.prog.info? 5).map (fun i => (i.zero, i.size, i.bytes)) = some (some (.int .u8 0), 1, 1) := by kernel_rfl
/-- Bytes as cells. -/
def u8s (l : List UInt8) : List Value := l.map fun b => Value.int .u8 b.toNat
theorem u8s_app (a b : List UInt8) : u8s (a ++ b) = u8s a ++ u8s b := by unfold u8s; simp
theorem u8s_len (l : List UInt8) : (u8s l).length = l.length := by unfold u8s; simp
theorem u8s_one (l : List UInt8) : ∀ u ∈ u8s l, u.oneCell' = true := by
  intro u hu
  obtain ⟨b, _, rfl⟩ := List.mem_map.1 hu
  rfl
theorem u8s_get {l : List UInt8} {j : Nat} (hj : j < l.length) : (u8s l)[j]? = some (.int .u8 (l[j].toNat : Int)) := by
  unfold u8s; rw [List.getElem?_map, List.getElem?_eq_getElem hj]; rfl
theorem u8s_of {l : List UInt8} {j : Nat} {u : Value} (h : (u8s l)[j]? = some u) : ∃ hj : j < l.length, u = .int .u8 (l[j].toNat : Int) := by
  have hj : j < l.length := by have := (List.getElem?_eq_some_iff.1 h).1; rwa [u8s_len] at this
  rw [u8s_get hj] at h
  exact ⟨hj, (Option.some.inj h).symm⟩
theorem u8_nat {n : Nat} (h : n < 256) : (n : Int) = ((n.toUInt8.toNat : Nat) : Int) := by
  have : n.toUInt8.toNat = n := by simp; omega
  rw [this]
theorem cell_one (w : World) (x : Value) (t : TypeId) : ∀ (j : Nat) (u : Value), [x][j]? = some u → (w.alloc (.cells #[x] t)).cell? ((⟨w.heap.size, 0, none⟩ : Addr).add j) = some u := by
  intro j u hj
  match j, hj with
  | 0, hj =>
    simp at hj; subst hj
    exact cell_of_one (heap_alloc_new w (.cells #[x] t))
theorem own_base {w : World} {base base' : Nat} {e : TypeId} {size : Nat} {v : Value} {n : Nat} {xs : List Value} (h : w.ownsRow base e size v n xs) (hb : base' ≤ base) : w.ownsRow base' e size v n xs := by
  obtain ⟨h1, h2⟩ := h
  refine ⟨h1, ?_⟩
  rcases h2 with h2 | ⟨g, cap, cur, hv, hg, r⟩
  · exact .inl h2
  · exact .inr ⟨g, cap, cur, hv, Nat.le_trans hb hg, r⟩
theorem own_block {w : World} {base : Nat} {e : TypeId} {size : Nat} {v : Value} {n : Nat} {xs : List Value} (h : w.ownsRow base e size v n xs) : ∀ k, v.ownBlock = some k → base ≤ k := by
  intro k hk
  obtain ⟨h1, h2⟩ := h
  rcases h2 with ⟨rfl, _⟩ | ⟨g, cap, cur, rfl, hg, r⟩
  · cases hk
  · cases hk; exact hg
/-- A value owns these bytes. -/
def OwnB (w : World) (base : Nat) (v : Value) (l : List UInt8) : Prop := w.ownsRow base 5 1 v l.length (u8s l)
theorem OwnB.below {w w' : World} {base B : Nat} {v : Value} {l : List UInt8} (h : OwnB w base v l) (hb : Below B w w') (hB : w.heap.size ≤ B) : OwnB w' base v l := by
  obtain ⟨h1, h2⟩ := h
  refine ⟨h1, ?_⟩
  rcases h2 with h2 | ⟨g, cap, cur, hv, hg, hh, r⟩
  · exact .inl h2
  · exact .inr ⟨g, cap, cur, hv, hg, by rw [hb.block g (Nat.lt_of_lt_of_le (lt_of_block hh) hB)]; exact hh, r⟩
theorem OwnB.mono {w : World} {base base' : Nat} {v : Value} {l : List UInt8} (h : OwnB w base v l) (hb : base' ≤ base) : OwnB w base' v l := own_base h hb
theorem OwnB.drew {w : World} {base : Nat} {v : Value} {l : List UInt8} (h : OwnB w base v l) : OwnB w.drew base v l := h
theorem OwnB.alloc {w : World} {base : Nat} {v : Value} {l : List UInt8} (h : OwnB w base v l) (o : Obj) : OwnB (w.alloc o) base v l := World.ownsRow.alloc h o
theorem OwnB.nil (w : World) (base : Nat) : OwnB w base (.slice none 0 0) [] := World.ownsRow_nil w base 5 1
theorem own_cells {w : World} {base g cap : Nat} {l : List UInt8} (h : OwnB w base (.slice (some ⟨g, 0, none⟩) l.length cap) l) : ∀ j u, (u8s l)[j]? = some u → w.cell? ((⟨g, 0, none⟩ : Addr).add j) = some u := World.ownsRow.cells h rfl
theorem OwnB.form {w : World} {base : Nat} {v : Value} {l : List UInt8} (h : OwnB w base v l) (hl : 0 < l.length) : ∃ g cap, v = .slice (some ⟨g, 0, none⟩) l.length cap ∧ base ≤ g ∧ g < w.heap.size ∧ l.length ≤ cap := by
  rcases h.2 with ⟨_, h0⟩ | ⟨g, cap, cur, hv, hb, hg, hc, _⟩
  · omega
  · exact ⟨g, cap, hv, hb, lt_of_block hg, hc⟩
theorem OwnB.len {w : World} {base : Nat} {v : Value} {l : List UInt8} (h : OwnB w base v l) : ∃ q cap, v = .slice q l.length cap := by
  rcases h.2 with ⟨hv, h0⟩ | ⟨g, cap, cur, hv, _⟩
  · exact ⟨none, 0, by rw [hv, h0]⟩
  · exact ⟨_, cap, hv⟩
theorem add_block (a : Addr) (j : Nat) : (a.add j).block = a.block := by unfold Addr.add; split <;> rfl
/-- A slice shows these bytes; they lie below B. -/
def Seen (w : World) (B : Nat) (v : Value) (l : List UInt8) : Prop :=
  (l = [] ∧ v = .slice none 0 0) ∨ ∃ (ad : Addr) (cap : Nat), v = .slice (some ad) l.length cap ∧ l.length ≤ cap ∧ (0 < l.length → ad.block < B) ∧ ∀ (j : Nat) (hj : j < l.length), w.cell? (ad.add j) = some (.int .u8 (l[j].toNat : Int))
theorem Seen.below {w w' : World} {B b : Nat} {v : Value} {l : List UInt8} (h : Seen w b v l) (hb : Below B w w') (hl : b ≤ B) : Seen w' b v l := by
  rcases h with h | ⟨ad, cap, hv, hc, hg, hh⟩
  · exact .inl h
  · refine .inr ⟨ad, cap, hv, hc, hg, fun j hj => ?_⟩
    rw [World.cell?_of_block (w := w) (a := ad.add j) (hb.block _ (by rw [add_block]; have := hg (by omega); omega))]; exact hh j hj
theorem Seen.mono {w : World} {B b : Nat} {v : Value} {l : List UInt8} (h : Seen w b v l) (hl : b ≤ B) : Seen w B v l := by
  rcases h with h | ⟨ad, cap, hv, hc, hg, hh⟩
  · exact .inl h
  · exact .inr ⟨ad, cap, hv, hc, fun h0 => by have := hg h0; omega, hh⟩
theorem Seen.drew {w : World} {b : Nat} {v : Value} {l : List UInt8} (h : Seen w b v l) : Seen w.drew b v l := h
theorem Seen.own {w : World} {base : Nat} {v : Value} {l : List UInt8} (h : OwnB w base v l) : Seen w w.heap.size v l := by
  rcases h.2 with ⟨hv, h0⟩ | ⟨g, cap, cur, rfl, hb, hg, hc, _⟩
  · exact .inl ⟨List.length_eq_zero_iff.1 h0, hv⟩
  · exact .inr ⟨⟨g, 0, none⟩, cap, rfl, hc, fun _ => lt_of_block hg, fun j hj => own_cells h j _ (u8s_get hj)⟩
/-- Its text. -/
theorem Seen.text {w : World} {B : Nat} {v : Value} {l : List UInt8} (h : Seen w B v l) : (convert 31 9 v).run Try.prog w = .ok (.string (bs l)) w := by
  rcases h with ⟨rfl, rfl⟩ | ⟨ad, cap, rfl, hc, hg, hh⟩
  · rw [run_convert_bytes_string (P := Try.prog) w 31 9 5 none 0 0 Try.underlying31 Try.underlying5 Try.underlying9]
    rfl
  · exact run_convert_bytes_back (P := Try.prog) w 31 9 5 ad cap l Try.underlying31 Try.underlying5 Try.underlying9 (fun j hj => hh j hj)
theorem Seen.len {w : World} {B : Nat} {v : Value} {l : List UInt8} (h : Seen w B v l) : ∃ q cap, v = .slice q l.length cap ∧ l.length ≤ cap := by
  rcases h with ⟨rfl, rfl⟩ | ⟨ad, cap, rfl, hc, _⟩
  · exact ⟨none, 0, rfl, by simp⟩
  · exact ⟨_, cap, rfl, hc⟩
theorem Seen.at {w : World} {B : Nat} {q : Option Addr} {n cap : Nat} {l : List UInt8} (h : Seen w B (.slice q n cap) l) (j : Nat) (hj : j < l.length) : ∃ ad, q = some ad ∧ ad.block < B ∧ w.cell? (ad.add j) = some (.int .u8 (l[j].toNat : Int)) := by
  rcases h with ⟨h0, _⟩ | ⟨ad, cap', hv, hc, hg, hh⟩
  · rw [h0] at hj; simp at hj
  · injection hv with h1 h2 h3
    exact ⟨ad, h1, hg (by omega), hh j hj⟩
theorem Seen.mk {w : World} {B : Nat} {ad : Addr} {cap n : Nat} {l : List UInt8} (hn : n = l.length) (hc : l.length ≤ cap) (hg : 0 < l.length → ad.block < B) (hh : ∀ (j : Nat) (hj : j < l.length), w.cell? (ad.add j) = some (.int .u8 (l[j].toNat : Int))) : Seen w B (.slice (some ad) n cap) l := by
  subst hn
  exact .inr ⟨ad, cap, rfl, hc, hg, hh⟩
theorem Seen.nil (w : World) (B : Nat) : Seen w B (.slice none 0 0) [] := .inl ⟨rfl, rfl⟩
theorem Seen.nil_at {w : World} {B : Nat} {ad : Addr} {cap : Nat} {n : Nat} (hn : n = 0) : Seen w B (.slice (some ad) n cap) [] := by
  subst hn
  exact .inr ⟨ad, cap, rfl, by simp, fun h => by simp at h, fun j hj => by simp at hj⟩
/-- Its first bytes. -/
theorem Seen.take {w : World} {B : Nat} {ad : Addr} {cap n : Nat} {l : List UInt8} (h : Seen w B (.slice (some ad) n cap) l) (k : Nat) (hk : k ≤ l.length) : Seen w B (.slice (some ad) k cap) (l.take k) := by
  rcases h with ⟨h0, hv⟩ | ⟨ad', cap', hv, hc, hg, hh⟩
  · cases hv
  · injection hv with h1 h2 h3
    cases h1
    subst h2 h3
    exact Seen.mk (by rw [List.length_take]; omega) (by rw [List.length_take]; omega) (fun h0 => hg (by rw [List.length_take] at h0; omega)) (fun j hj => by
      rw [List.length_take] at hj
      rw [hh j (by omega), List.getElem_take])
/-- Its later bytes. -/
theorem Seen.drop {w : World} {B : Nat} {ad : Addr} {cap n : Nat} {l : List UInt8} (h : Seen w B (.slice (some ad) n cap) l) (k : Nat) (hk : k ≤ l.length) : Seen w B (.slice (some (ad.add k)) (l.length - k) (cap - k)) (l.drop k) := by
  rcases h with ⟨h0, hv⟩ | ⟨ad', cap', hv, hc, hg, hh⟩
  · cases hv
  · injection hv with h1 h2 h3
    cases h1
    subst h2 h3
    exact Seen.mk (by rw [List.length_drop]) (by rw [List.length_drop]; omega) (fun h0 => by rw [add_block]; exact hg (by rw [List.length_drop] at h0; omega)) (fun j hj => by
      rw [List.length_drop] at hj
      have := hh (k + j) (by omega)
      rw [Addr.add_add, this, List.getElem_drop])
end Go.Proofs.Ytfkefppabjbbdaa
