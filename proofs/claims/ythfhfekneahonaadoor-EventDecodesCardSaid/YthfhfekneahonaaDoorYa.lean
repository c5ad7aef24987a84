/- The reference's reading: texts, numbers. -/
import Derived.Test.YthfhfekneahonaaDoorW
namespace Go.Proofs.YthfhfekneahonaaDoor
open Go.RowKit
set_option linter.unusedVariables false
theorem drop_cons {l : List UInt8} {k : Nat} {c : UInt8} {r : List UInt8} (h : l.drop k = c :: r) : ∃ hk : k < l.length, l[k] = c ∧ r = l.drop (k + 1) ∧ r.length = l.length - (k + 1) := by
  have hlt : k < l.length := by
    have := congrArg List.length h
    simp at this; omega
  rw [List.drop_eq_getElem_cons hlt] at h
  injection h with h1 h2
  exact ⟨hlt, h1, h2.symm, by rw [← h2, List.length_drop]⟩
set_option maxRecDepth 100000 in
theorem rtake_torn (v : Value) (l : List UInt8) (k : Nat) (hk : k ≤ l.length) (hl : l.length ≤ 1000) (c : Int) (h : rdTxt (l.drop k) = .bad c) (B : Nat) (w : World) (hv : Seen w B v l) :
    Calls Tryd.prog 60 #[v, .int .i64 k] w fun e w' => e = .returned (.tuple #[.string ⟨#[]⟩, .int .i64 (-1)]) ∧ w' = w := by
  cases hd : l.drop k with
  | nil =>
    have hk2 : k = l.length := by have := congrArg List.length hd; simp at this; omega
    obtain ⟨p, cap, rfl⟩ : ∃ p cap, v = .slice p l.length cap := by
      rcases hv with ⟨rfl, rfl⟩ | ⟨ad, cap, rfl, hc, hg, hh⟩
      · exact ⟨none, 0, rfl⟩
      · exact ⟨_, _, rfl⟩
    subst hk2
    clear h hd hv
    go_enter Tryd.func60, Tryd.ntmps60
    go_wp2_with fail
    refine bodyPost_ret (v := .tuple #[.string ⟨#[]⟩, .int .i64 (-1)]) (by simp [results, Tryd.results60, go_sem]) rfl ⟨rfl, rfl⟩
  | cons x r =>
    rw [hd] at h
    obtain ⟨hlt, hx, hr, hrl⟩ := drop_cons hd
    have hshort : r.length < x.toNat := by
      by_cases hs : r.length < x.toNat
      · exact hs
      · exfalso
        have : rdTxt (x :: r) = .ok (bs (r.take x.toNat)) (r.drop x.toNat) := by show (if _ then _ else _) = _; rw [if_neg hs]
        rw [this] at h; cases h
    rcases hv with ⟨rfl, rfl⟩ | ⟨ad, cap, rfl, hc, hg, hh⟩
    · simp at hlt
    · have cc := hh k hlt
      rw [hx] at cc
      have hx8 := x.toNat_lt
      have wc := wrap_u8n x
      obtain ⟨m, hm⟩ : ∃ m, x.toNat = m := ⟨_, rfl⟩
      rw [hm] at cc wc hx8 hshort
      have hmm : m < 256 := hx8
      have g1 : decide ((l.length : Int) ≤ (k : Int)) = false := by simp; omega
      have g2 : decide ((l.length : Int) < (k : Int) + 1 + (m : Int)) = true := by simp; omega
      clear h hh hd hr hrl hg hx hx8 hm
      go_enter Tryd.func60, Tryd.ntmps60
      go_wp2_with fail
      refine bodyPost_ret (v := .tuple #[.string ⟨#[]⟩, .int .i64 (-1)]) (by simp [results, Tryd.results60, go_sem]) rfl ⟨rfl, rfl⟩
theorem Seen.mid {w : World} {B : Nat} {ad : Addr} {cap : Nat} {l : List UInt8} (h : Seen w B (.slice (some ad) l.length cap) l) (k n c : Nat) (hkn : k + n ≤ l.length) (hc : n ≤ c) : Seen w B (.slice (some (ad.add k)) n c) ((l.drop k).take n) := by
  rcases h with ⟨rfl, h⟩ | ⟨ad', cap', hv, hc', hg, hh⟩
  · cases h
  · injection hv with h1 h2 h3
    injection h1 with h1
    subst h1
    have e : ((l.drop k).take n).length = n := by rw [List.length_take, List.length_drop]; omega
    refine Seen.mk e.symm (by omega) (fun h0 => by rw [add_block]; exact hg (by omega)) (fun j hj => ?_)
    rw [e] at hj
    rw [Addr.add_add, hh (k + j) (by omega), List.getElem_take, List.getElem_drop]
set_option maxRecDepth 100000 in
theorem rtake_ok (v : Value) (l : List UInt8) (k : Nat) (hk : k ≤ l.length) (hl : l.length ≤ 1000) (s : ByteArray) (r : List UInt8) (h : rdTxt (l.drop k) = .ok s r) (B : Nat) (w : World) (hv : Seen w B v l) :
    Calls Tryd.prog 60 #[v, .int .i64 k] w fun e w' => e = .returned (.tuple #[.string s, .int .i64 ((l.length - r.length : Nat) : Int)]) ∧ w' = w := by
  cases hd : l.drop k with
  | nil => rw [hd] at h; cases h
  | cons x r0 =>
    rw [hd] at h
    obtain ⟨hlt, hx, hr, hrl⟩ := drop_cons hd
    have hlong : ¬ r0.length < x.toNat := fun hs => by
      have : rdTxt (x :: r0) = .bad 3 := by show (if _ then _ else _) = _; rw [if_pos hs]
      rw [this] at h; cases h
    have h' : Rd.ok (bs (r0.take x.toNat)) (r0.drop x.toNat) = Rd.ok s r := by
      rw [← h]; show _ = (if _ then _ else _); rw [if_neg hlong]
    injection h' with h1 h2
    subst h1 h2
    have hv2 := hv
    rcases hv with ⟨rfl, rfl⟩ | ⟨ad, cap, rfl, hc, hg, hh⟩
    · simp at hlt
    · have cc := hh k hlt
      rw [hx] at cc
      have hx8 := x.toNat_lt
      have wc := wrap_u8n x
      have e1 : r0.drop x.toNat = l.drop (k + 1 + x.toNat) := by rw [hr, List.drop_drop]
      have e2 : l.length - (r0.drop x.toNat).length = k + 1 + x.toNat := by rw [List.length_drop]; omega
      rw [e2]
      have cv : ∀ c, x.toNat ≤ c → (convert 44 9 (.slice (some (ad.add (k + 1))) x.toNat c)).run Tryd.prog w = .ok (.string (bs (r0.take x.toNat))) w := fun c hc' => by
        rw [hr]; exact (hv2.mid (k + 1) x.toNat c (by omega) hc').text
      have cz : x.toNat = 0 → ∀ (ad' : Addr) c, (convert 44 9 (.slice (some ad') 0 c)).run Tryd.prog w = .ok (.string (bs (r0.take x.toNat))) w := fun hz ad' c => by
        rw [hz]; exact Seen.text (B := B) (Seen.nil rfl)
      obtain ⟨m, hm⟩ : ∃ m, x.toNat = m := ⟨_, rfl⟩
      rw [hm] at cc wc hx8 hlong cv cz ⊢
      have hmm : m < 256 := hx8
      have g1 : decide ((l.length : Int) ≤ (k : Int)) = false := by simp; omega
      have g2 : decide ((l.length : Int) < (k : Int) + 1 + (m : Int)) = false := by simp; omega
      have hcap : k + 1 + m ≤ cap := by omega
      generalize bs (r0.take m) = sx at *
      clear h hh hd hg hx hx8 hm e1 e2 hv2
      by_cases hcz : cap = k + 1
      · obtain rfl : m = 0 := by omega
        have cz0 := cz rfl ad 0
        clear cz cv
        go_enter Tryd.func60, Tryd.ntmps60
        go_wp2_with fail
        refine bodyPost_ret (v := .tuple #[.string sx, .int .i64 ((k + 1 + 0 : Nat) : Int)]) (by simp [results, Tryd.results60, go_sem]) rfl ⟨rfl, rfl⟩
      · have cv0 := cv (cap - (k + 1)) (by omega)
        rw [Addr.add_succ'] at cv0
        clear cz cv
        have g3 : decide (l.length ≤ k) = false := by simp; omega
        go_enter Tryd.func60, Tryd.ntmps60
        go_wp2_with fail
        all_goals first
          | (exfalso; omega)
          | (refine bodyPost_ret (v := .tuple #[.string sx, .int .i64 ((k + 1 + m : Nat) : Int)]) (by simp [results, Tryd.results60, go_sem]) rfl ⟨rfl, rfl⟩)
          | trace_state
end Go.Proofs.YthfhfekneahonaaDoor
