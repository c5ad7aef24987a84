/- Proved: the program's sum and product of numbers of 128 bits, each as two halves. -/
import Derived.Test.YteicljlmdphkhaaChecked
import Derived.Test.YteicljlmdphkhaaM
import Derived.WalkKit
import Derived.ProofKit
import Derived.Outline
import Derived.Test.YteicljlmdphkhaaK
import Derived.Deep.DeepFit
namespace Go.Proofs.Yteicljlmdphkhaa
open Go.RowKit
set_option linter.unusedVariables false

theorem bcell {W w1 : World} (hb : Below W.heap.size W w1) : (∀ b o, b < W.heap.size → w1.cell? ⟨b, o, none⟩ = W.cell? ⟨b, o, none⟩) ∧ (∀ b o, b < W.heap.size → w1.frozen? ⟨b, o, none⟩ = W.frozen? ⟨b, o, none⟩) :=
  ⟨fun b o h => hb.cell (p := ⟨b, o, none⟩) h, fun b o h => hb.frozen (p := ⟨b, o, none⟩) h⟩

theorem plus_any (m n r : Nat) (a b c d : Int) (hm : m < U * U) (hn : n < U * U) (hr : (m + n) % (U * U) = r) (ha : a = hi m) (hb : b = lo m) (hc : c = hi n) (hd : d = lo n) (w : World) :
    Calls Try.prog 35 #[.agg #[.int .u64 a, .int .u64 b], .agg #[.int .u64 c, .int .u64 d]] w fun e w' => e = .returned (.agg #[.int .u64 (hi r), .int .u64 (lo r)]) ∧ Below w.heap.size w w' := by
  subst ha hb hc hd
  have H1 := Lib.hid hm
  have H2 := Lib.hid hn
  have H3 := Lib.hid hr
  clear hm hn hr
  go_enter Try.func35, Try.ntmps35
  go_wp2
  · have h := plus_hi' m n H1.out H2.out (by assumption)
    have h' := plus_lo m n
    rw [H3.out] at h h'
    refine bodyPost_ret (v := .agg #[.int .u64 (hi r), .int .u64 (lo r)]) (by simp [results, Try.results35, go_sem, h, h']) rfl ⟨rfl, ?_⟩
    exact ((((Below.refl _ _).alloc (by simp <;> omega) _).alloc (by simp <;> omega) _).alloc (by simp <;> omega) _).alloc (by simp <;> omega) _
  · have h := plus_hi m n H1.out H2.out (by assumption)
    have h' := plus_lo m n
    rw [H3.out] at h h'
    refine bodyPost_ret (v := .agg #[.int .u64 (hi r), .int .u64 (lo r)]) (by simp [results, Try.results35, go_sem, h, h']) rfl ⟨rfl, ?_⟩
    exact ((((Below.refl _ _).alloc (by simp <;> omega) _).alloc (by simp <;> omega) _).alloc (by simp <;> omega) _).alloc (by simp <;> omega) _

set_option maxRecDepth 100000 in
theorem mul_any (a b : Nat) (ha : a < U) (hb : b < U) (w : World) :
    Calls Try.prog 25 #[.int .u64 a, .int .u64 b] w fun e w' => e = .returned (.agg #[.int .u64 (hi (a * b)), .int .u64 (lo (a * b))]) ∧ Below w.heap.size w w' := by
  have ma := mask32 a ha
  have mb := mask32 b hb
  have q0h := Lib.hid (p0_hi a b ha hb)
  have q0l := Lib.hid (p0_lo a b ha hb)
  have q1h := Lib.hid (p1_hi a b ha hb)
  have q1l := Lib.hid (p1_lo a b ha hb)
  have q2h := Lib.hid (p2_hi a b ha hb)
  have q2l := Lib.hid (p2_lo a b ha hb)
  have l0 := Lib.hid (p0_lt a b ha hb)
  have l1 := Lib.hid (p1_lt a b ha hb)
  have l2 := Lib.hid (p2_lt a b ha hb)
  have all := Lib.hid (p_all a b ha hb)
  clear ha hb
  obtain ⟨k, hk⟩ : ∃ k, (p0 a b + p1 a b) % (U * U) = k := ⟨_, rfl⟩
  obtain ⟨r, hr⟩ : ∃ r, a * b = r := ⟨_, rfl⟩
  have hkl : k < U * U := by rw [← hk]; exact Nat.mod_lt _ (by decide)
  rw [hk] at all
  rw [hr] at all
  have K1 := Lib.hid hk
  have K2 := Lib.hid hkl
  have K3 := Lib.hid hr
  rw [hr]
  clear hk hkl hr
  go_enter Try.func25, Try.ntmps25
  go_wp2_with fail
  refine (plus_any (p0 a b) (p1 a b) k _ _ _ _ l0.out l1.out K1.out q0h.out q0l.out q1h.out q1l.out _).mono ?_
  rintro e w1 ⟨rfl, hb⟩
  have B0 := ((Blk2.new w _ _ _).alloc _).below hb (by simp <;> omega)
  have B1 := (Blk2.new _ _ _ _).below hb (by simp <;> omega)
  simp at B1
  have bw : Below w.heap.size w w1 := Below.trans (((Below.refl _ _).alloc (by simp <;> omega) _).alloc (by simp <;> omega) _) (hb.mono (by simp <;> omega))
  obtain ⟨c00, c01, f00, f01⟩ := B0.all
  obtain ⟨c10, c11, f10, f11⟩ := B1.all
  have hz1 := B1.lt
  clear hb
  go_wp2_with fail
  refine (plus_any k (p2 a b) r _ _ _ _ K2.out l2.out all.out rfl rfl q2h.out q2l.out _).mono ?_
  rintro e w2 ⟨rfl, hb2⟩
  have B02 := ((B0.other (by simp <;> omega) _).other (by simp <;> omega) _).below hb2 (by simp <;> omega)
  have bw2 : Below w.heap.size w w2 := Below.trans ((bw.setCell (by simp <;> omega) _).setCell (by simp <;> omega) _) (hb2.mono (by simp <;> omega))
  clear c00 c01 f00 f01 c10 c11 f10 f11 B0 B1 hb2 bw
  obtain ⟨c00, c01, f00, f01⟩ := B02.all
  have hz2 := B02.lt
  go_wp2
  refine bodyPost_ret (v := .agg #[.int .u64 (hi r), .int .u64 (lo r)]) (by simp [results, Try.results25, go_sem, c00, c01]) rfl ⟨rfl, ?_⟩
  exact (bw2.setCell (by simp <;> omega) _).setCell (by simp <;> omega) _
end Go.Proofs.Yteicljlmdphkhaa
