/- The document's answer: lists of files; the place of a file; how many bytes the others have. -/
import Derived.Test.YtfkefppabjbbdaaV
namespace Go.Proofs.Ytfkefppabjbbdaa
open Go.RowKit Go.Maps
set_option linter.unusedVariables false
/-- The cells of a file. -/
def fcells (f : Fl) : List Value := [.string (bs f.name), .string (bs f.s), .int .i64 (f.lasts : Int), .bool f.stays]
def fls (L : List Fl) : List Value := L.flatMap fcells
theorem fls_len : ∀ L : List Fl, (fls L).length = L.length * 4
  | [] => rfl
  | f :: r => by
    show (fcells f ++ fls r).length = _
    rw [List.length_append, fls_len r, List.length_cons]
    show 4 + _ = _
    omega
theorem fls_app (A B : List Fl) : fls (A ++ B) = fls A ++ fls B := by unfold fls; rw [List.flatMap_append]
theorem fls_get : ∀ (L : List Fl) (j m : Nat) (hj : j < L.length), m < 4 → (fls L)[j * 4 + m]? = (fcells L[j])[m]?
  | [], j, m, hj, _ => by simp at hj
  | f :: r, 0, m, hj, hm => by
    show (fcells f ++ fls r)[0 * 4 + m]? = _
    rw [List.getElem?_append_left (by show _ < 4; omega)]
    simp
  | f :: r, j + 1, m, hj, hm => by
    show (fcells f ++ fls r)[(j + 1) * 4 + m]? = _
    rw [List.getElem?_append_right (by show 4 ≤ _; omega)]
    have e : (j + 1) * 4 + m - (fcells f).length = j * 4 + m := by show (j + 1) * 4 + m - 4 = _; omega
    rw [e, fls_get r j m (by simpa using hj) hm]
    rfl
/-- A value owns a list of files. -/
def Files (w : World) (base : Nat) (v : Value) (L : List Fl) : Prop := w.ownsRow base 71 4 v L.length (fls L)
theorem Files.below {w w' : World} {base B : Nat} {v : Value} {L : List Fl} (h : Files w base v L) (hb : Below B w w') (hB : w.heap.size ≤ B) : Files w' base v L := by
  obtain ⟨h1, h2⟩ := h
  refine ⟨h1, ?_⟩
  rcases h2 with h2 | ⟨g, cap, cur, hv, hg, hh, r⟩
  · exact .inl h2
  · exact .inr ⟨g, cap, cur, hv, hg, by rw [hb.block g (Nat.lt_of_lt_of_le (lt_of_block hh) hB)]; exact hh, r⟩
theorem Files.keptF {w w' : World} {base : Nat} {v : Value} {L : List Fl} {G : Nat → Prop} (h : Files w base v L) (hk : Kept G w w') (hv : ∀ g, v.ownBlock = some g → ¬ G g) : Files w' base v L := by
  obtain ⟨h1, h2⟩ := h
  refine ⟨h1, ?_⟩
  rcases h2 with h2 | ⟨g, cap, cur, e, hg, hh, r⟩
  · exact .inl h2
  · exact .inr ⟨g, cap, cur, e, hg, by rw [hk.block g (lt_of_block hh) (hv g (by rw [e]; rfl))]; exact hh, r⟩
theorem Files.len {w : World} {base : Nat} {v : Value} {L : List Fl} (h : Files w base v L) : ∃ q cap, v = .slice q L.length cap := by
  rcases h.2 with ⟨hv, h0⟩ | ⟨g, cap, cur, hv, _⟩
  · exact ⟨none, 0, by rw [hv, h0]⟩
  · exact ⟨_, cap, hv⟩
theorem Files.alloc {w : World} {base : Nat} {v : Value} {L : List Fl} (h : Files w base v L) (o : Obj) : Files (w.alloc o) base v L := World.ownsRow.alloc h o
theorem Files.mono {w : World} {base base' : Nat} {v : Value} {L : List Fl} (h : Files w base v L) (hb : base' ≤ base) : Files w base' v L := own_base h hb
theorem Files.nil (w : World) (base : Nat) : Files w base (.slice none 0 0) [] := World.ownsRow_nil w base 71 4
/-- A file's cells there. -/
structure FIn (w : World) (ad : Addr) (j : Nat) (f : Fl) : Prop where
  c0 : w.cell? (ad.add (j * 4)) = some (.string (bs f.name))
  c1 : w.cell? ⟨(ad.add (j * 4)).block, (ad.add (j * 4)).off + 1, none⟩ = some (.string (bs f.s))
  c2 : w.cell? ⟨(ad.add (j * 4)).block, (ad.add (j * 4)).off + 2, none⟩ = some (.int .i64 (f.lasts : Int))
  c3 : w.cell? ⟨(ad.add (j * 4)).block, (ad.add (j * 4)).off + 3, none⟩ = some (.bool f.stays)
theorem Files.at {w : World} {base : Nat} {q : Option Addr} {n cap : Nat} {L : List Fl} (h : Files w base (.slice q n cap) L) (j : Nat) (hj : j < L.length) : ∃ ad, q = some ad ∧ ad.block < w.heap.size ∧ base ≤ ad.block ∧ FIn w ad j L[j] := by
  rcases h.2 with ⟨hv, h0⟩ | ⟨g, cap', cur, hv, hg, hh, _⟩
  · omega
  · cases hv
    have hc := World.ownsRow.cells h (g := g) rfl
    have e : ∀ m, m < 4 → ∀ u, (fcells L[j])[m]? = some u → w.cell? ⟨g, j * 4 + m, none⟩ = some u := fun m hm u hu => by
      have := hc (j * 4 + m) u (by rw [fls_get L j m hj hm]; exact hu)
      rw [Addr.add_mid, Nat.zero_add] at this
      exact this
    refine ⟨⟨g, 0, none⟩, rfl, lt_of_block hh, hg, ?_, ?_, ?_, ?_⟩
    · rw [Addr.add_mid, Nat.zero_add]; exact e 0 (by omega) _ rfl
    · rw [Addr.add_mid, Nat.zero_add]; exact e 1 (by omega) _ rfl
    · rw [Addr.add_mid, Nat.zero_add]; exact e 2 (by omega) _ rfl
    · rw [Addr.add_mid, Nat.zero_add]; exact e 3 (by omega) _ rfl
/-- A disk of the document's. -/
def rdk (v : Value) (fuse : Int) (down : Bool) : Value := .agg #[v, .int .i64 fuse, .bool down]
theorem text_yes {a b : List UInt8} (h : a = b) : ((bs a).toList == (bs b).toList) = true := by rw [h]; simp
theorem text_no {a b : List UInt8} (h : a ≠ b) : ((bs a).toList == (bs b).toList) = false := by rw [bs_toList, bs_toList]; simpa using h
/-- Where a file is. -/
def AtI (n : List UInt8) (L : List Fl) (r : Int) : Prop := (r = -1 ∧ ∀ f ∈ L, f.name ≠ n) ∨ ∃ (i : Nat) (h : i < L.length), r = i ∧ L[i].name = n
set_option maxRecDepth 100000 in
theorem at_any {w : World} {base : Nat} {v : Value} {L : List Fl} (h : Files w base v L) (hl : L.length ≤ 1000000) (fuse : Int) (down : Bool) (n : List UInt8) :
    Calls Try.prog 34 #[.agg #[v, .int .i64 fuse, .bool down], .string (bs n)] w fun e w' => ∃ r, e = .returned (.int .i64 r) ∧ AtI n L r ∧ Below w.heap.size w w' := by
  obtain ⟨q, cap, rfl⟩ := h.len
  have HV := Lib.hid h
  clear h
  obtain ⟨N, hN⟩ : ∃ N, L.length = N := ⟨_, rfl⟩
  rw [hN] at HV hl
  rw [hN]
  have HN := Lib.hid hN
  clear hN
  go_enter Try.func34, Try.ntmps34
  go_wp2_with fail
  have HB : Hid (Below w.heap.size w (w.alloc (.cells #[.slice q N cap, .int .i64 fuse, .bool down] 28))) := Lib.hid ((Below.refl _ w).alloc (Nat.le_refl _) _)
  go_loopw [5] (fun iv wr => ∃ i : Nat, i ≤ N ∧ iv = .int .i64 i ∧ Hid (∀ f ∈ L.take i, f.name ≠ n) ∧ wr = w.alloc (.cells #[.slice q N cap, .int .i64 fuse, .bool down] 28)) (fun iv _ => N - (intOf iv).toNat)
  case atStart => exact ⟨0, by omega, rfl, by intro f hf; simp at hf, rfl⟩
  case round =>
    obtain ⟨i, hi, rfl, HA, rfl⟩ := hrel
    by_cases hlt : i < N
    · have hil : i < L.length := by rw [HN.out]; exact hlt
      obtain ⟨ad, rfl, hab, -, c0, -, -, -⟩ := (HV.out.alloc (.cells #[.slice q N cap, .int .i64 fuse, .bool down] 28)).at i hil
      obtain ⟨f, hf⟩ : ∃ f, L[i] = f := ⟨_, rfl⟩
      rw [hf] at c0
      have HT : Hid (f.name ≠ n → ∀ f ∈ L.take (i + 1), f.name ≠ n) := Lib.hid (fun h f hf' => by
        rw [List.take_succ_eq_append_getElem hil] at hf'
        rcases List.mem_append.1 hf' with hf' | hf'
        · exact HA.out f hf'
        · rw [List.mem_singleton] at hf'
          rw [hf', hf]; exact h)
      have HIL := Lib.hid hil
      have HF : Hid (f.name = n → AtI n L i) := Lib.hid (fun h => .inr ⟨i, hil, rfl, by rw [hf]; exact h⟩)
      clear hf hil
      by_cases hn : f.name = n
      · have hq := text_yes hn
        have Hn := Lib.hid hn
        clear hn
        go_wp2_with fail
        go_ret
        exact ⟨_, rfl, HF.out Hn.out, HB.out⟩
      · have hq := text_no hn
        have Hn := Lib.hid hn
        clear hn
        go_wp2_with fail
        refine ⟨⟨i + 1, by omega, by simp, HT.out Hn.out, trivial⟩, ?_⟩
        simp only [intOf]
        omega
    · obtain rfl : i = N := by omega
      have HL : Hid (∀ f ∈ L, f.name ≠ n) := Lib.hid (by
        have h := HA.out
        rw [List.take_of_length_le (by rw [HN.out]; exact Nat.le_refl _)] at h
        exact h)
      go_wp2_with fail
      go_ret
      exact ⟨_, rfl, .inl ⟨rfl, HL.out⟩, HB.out⟩
theorem tot_take {L : List Fl} {i : Nat} (hi : i < L.length) (n : List UInt8) : tot (del n (L.take (i + 1))) = tot (del n (L.take i)) + if L[i].name = n then 0 else L[i].s.length := by
  rw [List.take_succ_eq_append_getElem hi]
  unfold del delK
  rw [List.filter_append, tot_app]
  by_cases h : L[i].name = n
  · simp [h, tot]
  · simp [h, tot]
theorem tot_dle (L : List Fl) (n : List UInt8) : tot (del n L) ≤ tot L := by
  induction L with
  | nil => exact Nat.le_refl _
  | cons f r ih =>
    unfold del delK at *
    rw [List.filter_cons]
    split
    · simp only [tot]; omega
    · simp only [tot]; omega
theorem tot_tle (L : List Fl) (i : Nat) : tot (L.take i) ≤ tot L := by
  conv => rhs; rw [← List.take_append_drop i L, tot_app]
  omega
set_option maxRecDepth 100000 in
theorem bytes_any {w : World} {base : Nat} {v : Value} {L : List Fl} (h : Files w base v L) (hl : L.length ≤ 1000000) (ht : tot L ≤ 1000000000) (fuse : Int) (down : Bool) (n : List UInt8) :
    Calls Try.prog 41 #[.agg #[v, .int .i64 fuse, .bool down], .string (bs n)] w fun e w' => e = .returned (.int .i64 (tot (del n L) : Nat)) ∧ Below w.heap.size w w' := by
  obtain ⟨q, cap, rfl⟩ := h.len
  have HV := Lib.hid h
  have HTT := Lib.hid ht
  clear h ht
  obtain ⟨N, hN⟩ : ∃ N, L.length = N := ⟨_, rfl⟩
  rw [hN] at HV hl
  rw [hN]
  have HN := Lib.hid hN
  clear hN
  go_enter Try.func41, Try.ntmps41
  go_wp2_with fail
  have HB : Hid (Below w.heap.size w (w.alloc (.cells #[.slice q N cap, .int .i64 fuse, .bool down] 28))) := Lib.hid ((Below.refl _ w).alloc (Nat.le_refl _) _)
  go_loopw [5, 6] (fun sv iv wr => ∃ i s : Nat, i ≤ N ∧ iv = .int .i64 i ∧ sv = .int .i64 s ∧ Hid (s = tot (del n (L.take i))) ∧ s ≤ 1000000000 ∧ wr = w.alloc (.cells #[.slice q N cap, .int .i64 fuse, .bool down] 28)) (fun _ iv _ => N - (intOf iv).toNat)
  case atStart => exact ⟨0, 0, by omega, rfl, rfl, rfl, by omega, rfl⟩
  case round =>
    obtain ⟨i, s, hi, rfl, rfl, HA, hs, rfl⟩ := hrel
    by_cases hlt : i < N
    · have hil : i < L.length := by rw [HN.out]; exact hlt
      obtain ⟨ad, rfl, hab, -, c0, c1, -, -⟩ := (HV.out.alloc (.cells #[.slice q N cap, .int .i64 fuse, .bool down] 28)).at i hil
      obtain ⟨f, hf⟩ : ∃ f, L[i] = f := ⟨_, rfl⟩
      rw [hf] at c0 c1
      have hsz := bs_size f.s
      obtain ⟨m, hm⟩ : ∃ m, f.s.length = m := ⟨_, rfl⟩
      rw [hm] at hsz
      have HT : Hid (tot (del n (L.take (i + 1))) = s + if f.name = n then 0 else m) := Lib.hid (by rw [tot_take hil, HA.out, hf, hm])
      have hle : Hid (tot (del n (L.take (i + 1))) ≤ 1000000000) := Lib.hid (by
        have := tot_dle (L.take (i + 1)) n
        have := tot_tle L (i + 1)
        have := HTT.out
        omega)
      clear hm hf hil
      by_cases hn : f.name = n
      · have hq := text_yes hn
        have HX : Hid (s = tot (del n (L.take (i + 1)))) := Lib.hid (by rw [HT.out, if_pos hn]; omega)
        have hq2 : ((bs f.name).toList != (bs n).toList) = false := by rw [bne, hq]; rfl
        clear hn
        go_wp2_with fail
        refine ⟨⟨i + 1, s, by omega, by simp, rfl, HX.out, hs, trivial⟩, ?_⟩
        simp only [intOf]
        omega
      · have hq := text_no hn
        have HX : Hid (s + m = tot (del n (L.take (i + 1)))) := Lib.hid (by rw [HT.out, if_neg hn])
        have hq2 : ((bs f.name).toList != (bs n).toList) = true := by rw [bne, hq]; rfl
        have hsm : s + m ≤ 1000000000 := by rw [HX.out]; exact hle.out
        clear hn
        go_wp2_with fail
        refine ⟨⟨i + 1, s + m, by omega, by simp, by simp, HX.out, hsm, trivial⟩, ?_⟩
        simp only [intOf]
        omega
    · obtain rfl : i = N := by omega
      have HL : Hid (s = tot (del n L)) := Lib.hid (by
        have h := HA.out
        rw [List.take_of_length_le (by rw [HN.out]; exact Nat.le_refl _)] at h
        exact h)
      go_wp2_with fail
      go_ret
      exact ⟨by rw [HL.out]; rfl, HB.out⟩
end Go.Proofs.Ytfkefppabjbbdaa
