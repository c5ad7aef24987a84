/- A slice of slices of bytes that came in. -/
import Derived.Test.YtcmceibaaaadoaaLn
namespace Go.Proofs.Ytcmceibaaaadoaa
open Go.RowKit
set_option linter.unusedVariables false
/-- A slice of slices that show these bytes; they lie below B. -/
def Lists (w : World) (B : Nat) (v : Value) (ps : List (List UInt8)) : Prop :=
  (ps = [] ∧ v = .slice none 0 0) ∨ ∃ (ad : Addr) (cap : Nat), v = .slice (some ad) ps.length cap ∧ ps.length ≤ cap ∧ (0 < ps.length → ad.block < B) ∧ ∀ (j : Nat) (hj : j < ps.length), ∃ c, w.cell? (ad.add j) = some c ∧ Seen w B c ps[j]
theorem Lists.below {w w' : World} {B b : Nat} {v : Value} {ps : List (List UInt8)} (h : Lists w b v ps) (hb : Below B w w') (hl : b ≤ B) : Lists w' b v ps := by
  rcases h with h | ⟨ad, cap, hv, hc, hg, hh⟩
  · exact .inl h
  · refine .inr ⟨ad, cap, hv, hc, hg, fun j hj => ?_⟩
    obtain ⟨c, h1, h2⟩ := hh j hj
    refine ⟨c, ?_, h2.below hb hl⟩
    rw [World.cell?_of_block (w := w) (a := ad.add j) (hb.block _ (by rw [add_block]; have := hg (by omega); omega))]; exact h1
theorem Lists.len {w : World} {B : Nat} {v : Value} {ps : List (List UInt8)} (h : Lists w B v ps) : ∃ q cap, v = .slice q ps.length cap := by
  rcases h with ⟨rfl, rfl⟩ | ⟨ad, cap, rfl, _⟩
  · exact ⟨none, 0, rfl⟩
  · exact ⟨_, cap, rfl⟩
theorem Lists.at {w : World} {B : Nat} {q : Option Addr} {n cap : Nat} {ps : List (List UInt8)} (h : Lists w B (.slice q n cap) ps) (j : Nat) (hj : j < ps.length) : ∃ ad q' cap', q = some ad ∧ w.cell? (ad.add j) = some (.slice q' ps[j].length cap') ∧ Seen w B (.slice q' ps[j].length cap') ps[j] := by
  rcases h with ⟨h0, _⟩ | ⟨ad, cap', hv, hc, hg, hh⟩
  · rw [h0] at hj; simp at hj
  · cases hv
    obtain ⟨c, h1, h2⟩ := hh j hj
    obtain ⟨q', cap2, rfl, _⟩ := h2.len
    exact ⟨ad, q', cap2, rfl, h1, h2⟩
theorem Seen.front {w : World} {B : Nat} {q : Option Addr} {cap n : Nat} {l : List UInt8} (h : Seen w B (.slice q n cap) l) (k : Nat) (hk : k ≤ l.length) : Seen w B (.slice q k cap) (l.take k) := by
  rcases q with _ | ad
  · rcases h with ⟨h0, hv⟩ | ⟨ad', cap', hv, _⟩
    · subst h0
      obtain rfl : k = 0 := by simpa using hk
      cases hv
      exact .inl ⟨rfl, rfl⟩
    · cases hv
  · exact h.take k hk
theorem want_le : ∀ (ps : List (List UInt8)) (cut : Nat), (wantF ps cut).1 ≤ ps.length ∧ (wantF ps cut).2 ≤ (framesL ps).length
  | [], cut => by simp [wantF]
  | p :: ps, cut => by
    have ih := want_le ps (cut - (p.length + 10))
    unfold wantF
    rw [framesL_cons, List.length_append, frameL_len, List.length_cons]
    split
    · simp only; omega
    · simp
theorem framesL_step (ps : List (List UInt8)) (k : Nat) (h : k < ps.length) : framesL (ps.take (k + 1)) = framesL (ps.take k) ++ frameL ps[k] := by
  rw [List.take_succ_eq_append_getElem h, framesL_snoc]
theorem framesL_le (ps : List (List UInt8)) (m : Nat) : ∀ k, k ≤ ps.length → (∀ j (hj : j < ps.length), j < k → ps[j].length ≤ m) → (framesL (ps.take k)).length ≤ k * (m + 10)
  | 0, _, _ => by simp [framesL]
  | k + 1, h, hh => by
    have ih := framesL_le ps m k (by omega) (fun j hj h2 => hh j hj (by omega))
    have h1 := hh k (by omega) (by omega)
    rw [framesL_step ps k (by omega), List.length_append, frameL_len, Nat.add_mul, Nat.one_mul]
    omega
theorem info3 : (Try.prog.info? 3).map (fun i => (i.zero, i.size, i.bytes)) = some (some (.int .i64 0), 1, 8) := by kernel_rfl
/-- Where the frames end. -/
def endsV (ps : List (List UInt8)) (k : Nat) : List Value := (List.range k).map fun i => Value.int .i64 ((framesL (ps.take (i + 1))).length : Nat)
theorem endsV_len (ps : List (List UInt8)) (k : Nat) : (endsV ps k).length = k := by unfold endsV; simp
theorem endsV_succ (ps : List (List UInt8)) (k : Nat) : endsV ps (k + 1) = endsV ps k ++ [Value.int .i64 ((framesL (ps.take (k + 1))).length : Nat)] := by
  unfold endsV; rw [List.range_succ, List.map_append]; rfl
theorem endsV_at (ps : List (List UInt8)) {k j : Nat} (h : j < k) : (endsV ps k)[j]? = some (.int .i64 ((framesL (ps.take (j + 1))).length : Nat)) := by
  unfold endsV
  rw [List.getElem?_map, List.getElem?_eq_getElem (by simpa using h)]
  simp
/-- Rows of unlike kinds lie in unlike blocks. -/
theorem rows_apart {w : World} {base base' e e' size size' n n' : Nat} {u c : Value} {xs xs' : List Value} (he : e ≠ e') (h : w.ownsRow base e size u n xs) (hc : w.ownsRow base' e' size' c n' xs') : c.ownBlock = none ∨ c.ownBlock ≠ u.ownBlock := by
  rcases hc.2 with ⟨rfl, _⟩ | ⟨g, cap, cur, rfl, hg, hh, r⟩
  · exact .inl rfl
  · right
    rcases h.2 with ⟨rfl, _⟩ | ⟨g', cap', cur', rfl, hg', hh', r'⟩
    · simp [Value.ownBlock]
    · simp only [Value.ownBlock]
      intro e2
      obtain rfl : g = g' := Option.some.inj e2
      rw [hh] at hh'
      cases hh'
      exact he rfl
theorem own_below {w w' : World} {base B e size n : Nat} {v : Value} {xs : List Value} (h : w.ownsRow base e size v n xs) (hb : Below B w w') (hB : w.heap.size ≤ B) : w'.ownsRow base e size v n xs := by
  obtain ⟨h1, h2⟩ := h
  refine ⟨h1, ?_⟩
  rcases h2 with h2 | ⟨g, cap, cur, hv, hg, hh, r⟩
  · exact .inl h2
  · exact .inr ⟨g, cap, cur, hv, hg, by rw [hb.block g (Nat.lt_of_lt_of_le (lt_of_block hh) hB)]; exact hh, r⟩
end Go.Proofs.Ytcmceibaaaadoaa
