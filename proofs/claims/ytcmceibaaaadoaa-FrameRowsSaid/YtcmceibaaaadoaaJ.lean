/- Bytes appended, whatever they are; a byte of a row stored. -/
import Derived.Test.YtcmceibaaaadoaaI
namespace Go.Proofs.Ytcmceibaaaadoaa
open Go.RowKit
set_option linter.unusedVariables false
theorem RowB.set {w : World} {g cap k : Nat} {l : List UInt8} (h : RowB w g cap k l) (j : Nat) (x : UInt8) : RowB (w.setCell ⟨g, j, none⟩ (.int .u8 (x.toNat : Int))) g cap k (l.set j x) := by
  have := (World.ownsRow.stored h j (.int .u8 (x.toNat : Int))).1
  unfold RowB u8s at *
  rw [List.map_set]
  exact this
theorem RowB.frozen {w : World} {g cap k : Nat} {l : List UInt8} (h : RowB w g cap k l) (j : Nat) : w.frozen? ⟨g, j, none⟩ = false := World.ownsRow.frozenAt h j
theorem wpList_append_seen {ops : Array Oper} {rest : List Oper} {o : Oper} {a : Act} {Q : Exit → Act → World → Prop} {w : World} (hgd : o.guard = none) (s x : Operand)
    (ho : o.op = .call { callee := .builtin .append, args := #[s, x], argTypes := #[22, 22] }) (base : Nat) (v : Value) (l : List UInt8) (hs : a.eval s = v) (hown : OwnB w base v l) (B : Nat) (xv : Value) (m : List UInt8) (hx : a.eval x = xv) (hsn : Seen w B xv m)
    (hlen : l.length + m.length ≤ 2000000000) (hbase : base ≤ w.heap.size) (C : Nat) (w0 : World) (hb : Below C w0 w) (hC : C ≤ base)
    (h : ∀ v' w', OwnB w' base v' (l ++ m) → Hid (Below C w0 w') → wpList Try.prog ops Q rest (a.put o.dst v') w') : wpList Try.prog ops Q (o :: rest) a w := by
  obtain ⟨i0, hi, hz0, hz1, hz2⟩ := info_parts info5
  rcases hsn with ⟨rfl, rfl⟩ | ⟨ad, cap, rfl, hc, hg, hh⟩
  · refine wpList_append_own_none hgd s x 22 ho base 5 i0 1 Try.underlying22 hi v l.length (u8s l) hs hown hx ?_
    exact h v w (by rw [List.append_nil]; exact hown) hb
  · refine wpList_append_own _ hgd s x 22 ho base 5 i0 (.int .u8 0) 1 1 Try.underlying22 hi hz0 hz1 hz2 rfl (by decide) v l.length (u8s l) hs hown ad m.length cap (u8s m) hx (by rw [u8s_len]; omega) (fun j u hu => ?_) (u8s_one m) (by unfold maxLen; omega) (by omega) hbase (fun v' w' h1 h2 _ => ?_)
    · obtain ⟨hj, rfl⟩ := u8s_of hu
      exact hh j hj
    · refine h v' w' ?_ ?_
      · unfold OwnB
        rw [List.length_append, u8s_app]
        exact h1
      · exact hb.grown h2 (by omega) (fun k hk => Nat.le_trans hC (own_block hown k hk))
theorem xor8 (x y : UInt8) : bits .xor .u8 (x.toNat : Int) (y.toNat : Int) = ((x ^^^ y).toNat : Int) := by
  rw [u8_xor_nat _ _ x.toNat_lt y.toNat_lt, UInt8.toNat_xor]
end Go.Proofs.Ytcmceibaaaadoaa
