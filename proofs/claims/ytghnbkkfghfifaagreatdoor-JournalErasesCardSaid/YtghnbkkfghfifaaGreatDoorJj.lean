/- A journal, and what a function that is handed on holds: in memory, apart. -/
import Derived.Test.YtghnbkkfghfifaaGreatDoorJi
namespace Go.Proofs.YtghnbkkfghfifaaGreatDoor
open Go.RowKit Go.Maps D
open F (frameL frameL_len)
set_option linter.unusedVariables false
/-- What turns elsewhere leaves it as it is. -/
theorem LogM.farF {w w' : World} {F P : Nat → Prop} {d l : Nat} {n : List UInt8} {per : Nat} {v : Value} {j : Jn Ev} (h : LogM w F d l n per v j) (hk : Kept P w w') (hFP : ∀ i, F i → i < w.heap.size → ¬ P i) (h7 : ∀ i, P i → 7 ≤ i) : LogM w' F d l n per v j :=
  ⟨h.self.keptF hk (hFP _ h.fl h.self.lt), h.row.keptF hk (fun g hg => hFP _ (h.fg g hg) (h.glt hg)), h.disk.far hk hFP, h.fl, h.fg, lay_kept h.lay hk h7, h.seven, h.name, h.per1, h.small⟩
/-- What a function that is handed on holds, in blocks of its own; what a call of it does. -/
structure Keeps (fid : Nat) (caps : Array Value) (kp : Ev → Bool) (I : World → (Nat → Prop) → List Ev → Prop) : Prop where
  ent : ∀ args w, (callFunc fid args).run Tryz.prog w = .ok (.enter fid args) w
  far : ∀ {w w' : World} {P G : Nat → Prop} {qs : List Ev}, I w P qs → Kept G w w' → (∀ i, P i → i < w.heap.size → ¬ G i) → I w' P qs
  mono : ∀ {w : World} {P Q : Nat → Prop} {qs : List Ev}, I w P qs → (∀ i, P i → i < w.heap.size → Q i) → I w Q qs
  call : ∀ {w : World} {P : Nat → Prop} {qs : List Ev} (e : Ev), I w P qs → qs.length ≤ 1048576 → (∀ i, w.heap.size ≤ i → P i) → Calls Tryz.prog fid (#[evV e] ++ caps) w fun x w' => x = .returned (.bool (kp e)) ∧ I w' P (qs ++ [e]) ∧ Kept P w w'
/-- A journal, and such a function. -/
def Both (I : World → (Nat → Prop) → List Ev → Prop) (w : World) (F P : Nat → Prop) (d l : Nat) (n : List UInt8) (per : Nat) (v : Value) (j : Jn Ev) (qs : List Ev) : Prop :=
  ∃ F' P' : Nat → Prop, (∀ i, F' i → F i) ∧ (∀ i, P' i → P i) ∧ (∀ i, w.heap.size ≤ i → F' i ∧ P' i) ∧ (∀ i, i < w.heap.size → F' i → ¬ P' i) ∧ LogM w F' d l n per v j ∧ I w P' qs ∧ ∀ i, P i → 7 ≤ i
section
variable {fid : Nat} {caps : Array Value} {kp : Ev → Bool} {I : World → (Nat → Prop) → List Ev → Prop}
variable {w w' : World} {F P : Nat → Prop} {d l : Nat} {n : List UInt8} {per : Nat} {v v' : Value} {j j' : Jn Ev} {qs : List Ev}
theorem Both.below (C : Keeps fid caps kp I) (h : Both I w F P d l n per v j qs) (hb : Below w.heap.size w w') : Both I w' F P d l n per v j qs := by
  obtain ⟨F', P', h1, h2, h3, h4, hm, hi, h7⟩ := h
  refine ⟨fun i => F' i ∧ (i < w.heap.size ∨ w'.heap.size ≤ i), fun i => P' i ∧ (i < w.heap.size ∨ w'.heap.size ≤ i), fun i hi => h1 i hi.1, fun i hi => h2 i hi.1, fun i hi => ?_, fun i hl hf hp => ?_, ?_, ?_, h7⟩
  · have := h3 i (Nat.le_trans hb.size hi)
    exact ⟨⟨this.1, .inr hi⟩, this.2, .inr hi⟩
  · rcases hf.2 with h5 | h5
    · exact h4 i h5 hf.1 hp.1
    · omega
  · exact (hm.mono (G := fun i => F' i ∧ (i < w.heap.size ∨ w'.heap.size ≤ i)) (fun i hf hs => ⟨hf, .inl hs⟩) (fun i hf => hm.seven i hf.1)).below hb
  · exact C.far (C.mono hi (Q := fun i => P' i ∧ (i < w.heap.size ∨ w'.heap.size ≤ i)) (fun i hp hs => ⟨hp, .inl hs⟩)) (G := fun _ => False) ⟨hb.os, hb.tape, hb.output, hb.size, fun k hk _ => hb.block k hk⟩ (fun i _ _ => id)
/-- The journal has turned. -/
theorem Both.log (C : Keeps fid caps kp I) {Q : Ending → Prop} {f : Nat} {args : Array Value} (h : Both I w F P d l n per v j qs)
    (k : ∀ F' : Nat → Prop, (∀ i, w.heap.size ≤ i → F' i) → LogM w F' d l n per v j → Calls Tryz.prog f args w fun e w' => Q e ∧ (∃ v', LogM w' F' d l n per v' j') ∧ Kept F' w w') :
    Calls Tryz.prog f args w fun e w' => Q e ∧ ∃ v', Both I w' F P d l n per v' j' qs ∧ Kept F w w' := by
  obtain ⟨F', P', h1, h2, h3, h4, hm, hi, h7⟩ := h
  refine (k F' (fun i hs => (h3 i hs).1) hm).mono ?_
  rintro e w' ⟨hq, ⟨v', hm'⟩, hk⟩
  refine ⟨hq, v', ⟨F', fun i => P' i ∧ (i < w.heap.size ∨ w'.heap.size ≤ i), h1, fun i hi => h2 i hi.1, fun i hi => ?_, fun i hl hf hp => ?_, hm', ?_, h7⟩, hk.mono h1⟩
  · have := h3 i (Nat.le_trans hk.size hi)
    exact ⟨this.1, this.2, .inr hi⟩
  · rcases hp.2 with h5 | h5
    · exact h4 i h5 hf hp.1
    · omega
  · exact C.far (C.mono hi (Q := fun i => P' i ∧ (i < w.heap.size ∨ w'.heap.size ≤ i)) (fun i hp hs => ⟨hp, .inl hs⟩)) hk (fun i hp hs hf => h4 i hs hf hp.1)
/-- The function is called. -/
theorem Both.ask (C : Keeps fid caps kp I) (h : Both I w F P d l n per v j qs) (e : Ev) (ha : qs.length ≤ 1048576) :
    Calls Tryz.prog fid (#[evV e] ++ caps) w fun x w' => x = .returned (.bool (kp e)) ∧ Both I w' F P d l n per v j (qs ++ [e]) ∧ Kept P w w' := by
  obtain ⟨F', P', h1, h2, h3, h4, hm, hi, h7⟩ := h
  refine (C.call e hi ha (fun i hs => (h3 i hs).2)).mono ?_
  rintro x w' ⟨rfl, hi', hk⟩
  refine ⟨rfl, ⟨fun i => F' i ∧ (i < w.heap.size ∨ w'.heap.size ≤ i), P', fun i hi => h1 i hi.1, h2, fun i hi => ?_, fun i hl hf hp => ?_, ?_, hi', h7⟩, hk.mono h2⟩
  · have := h3 i (Nat.le_trans hk.size hi)
    exact ⟨⟨this.1, .inr hi⟩, this.2⟩
  · rcases hf.2 with h5 | h5
    · exact h4 i h5 hf.1 hp
    · omega
  · have hmm := hm.mono (G := fun i => F' i ∧ (i < w.heap.size ∨ w'.heap.size ≤ i)) (fun i hf hs => ⟨hf, .inl hs⟩) (fun i hf => hm.seven i hf.1)
    exact hmm.farF hk (fun i hf hs hp => h4 i hs hf.1 hp) (fun i hp => h7 i (h2 i hp))
end
end Go.Proofs.YtghnbkkfghfifaaGreatDoor
