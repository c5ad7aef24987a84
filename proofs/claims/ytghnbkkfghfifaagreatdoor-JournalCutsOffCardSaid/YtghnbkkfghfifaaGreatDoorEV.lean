/- The reader: texts. -/
import Derived.Test.YtghnbkkfghfifaaGreatDoorEU
namespace Go.Proofs.YtghnbkkfghfifaaGreatDoor.E
open Go.RowKit
set_option linter.unusedVariables false
theorem text_nil (w : World) : (convert 38 9 (.slice none 0 0)).run Tryz.prog w = .ok (.string ⟨#[]⟩) w := Seen.text (B := 0) (l := []) (.inl ⟨rfl, rfl⟩)
theorem wrap_u8n (c : UInt8) : IntKind.i64.wrap ((c.toNat : Nat) : Int) = ((c.toNat : Nat) : Int) := by
  have := c.toNat_lt
  rw [IntKind.wrap_i64]; omega
set_option maxRecDepth 100000 in
theorem text_any (b : Nat) (x : Rd Unit) (w : World) (hx : RSt w b x) :
    Calls Tryz.prog 126 #[.pointer (some ⟨b, 0, none⟩)] w fun e w' => e = .returned (.string ((rTxt x).val ⟨#[]⟩)) ∧ RSt w' b (rTxt x).st ∧ Only b w w' := by
  have HX := Lib.hid hx
  have tn := text_nil
  cases x with
  | bad c =>
    have hc := hx.1
    have HC := Lib.hid hc
    clear hx hc
    go_enter Tryz.func126, Tryz.ntmps126
    go_wp2_with fail
    refine (one_any b _ _ HX.out).mono ?_
    rintro e w1 ⟨rfl, h1, h2⟩
    obtain ⟨_, v, h1⟩ := h1
    have H1 := Lib.hid h1
    clear h1
    go_wp2_with fail
    refine (take_bad b _ v c HC.out _ H1.out).mono ?_
    rintro e w2 ⟨rfl, rfl⟩
    go_wp2_with fail
    go_ret
    exact ⟨rfl, ⟨HC.out, v, H1.out⟩, h2⟩
  | ok u l =>
    clear hx
    cases l with
    | nil =>
      go_enter Tryz.func126, Tryz.ntmps126
      go_wp2_with fail
      refine (one_any b _ _ HX.out).mono ?_
      rintro e w1 ⟨rfl, h1, h2⟩
      obtain ⟨_, v, h1⟩ := h1
      have H1 := Lib.hid h1
      clear h1
      go_wp2_with fail
      refine (take_bad b _ v 3 rfl _ H1.out).mono ?_
      rintro e w2 ⟨rfl, rfl⟩
      go_wp2_with fail
      go_ret
      exact ⟨rfl, ⟨rfl, v, H1.out⟩, h2⟩
    | cons c r =>
      have wc := wrap_u8n c
      obtain ⟨m, hm⟩ : ∃ m, c.toNat = m := ⟨_, rfl⟩
      rw [hm] at wc
      by_cases hlt : r.length < m
      · have hr : rTxt (.ok u (c :: r)) = .bad 3 := by
          show (if r.length < c.toNat then Rd.bad 3 else _) = _
          rw [if_pos (by omega)]
        rw [hr]
        have HL := Lib.hid hlt
        have HM := Lib.hid hm
        clear hlt hm hr
        go_enter Tryz.func126, Tryz.ntmps126
        go_wp2_with fail
        refine (one_any b _ _ HX.out).mono ?_
        rintro e w1 ⟨rfl, h1, h2⟩
        rw [show ((rOne (Rd.ok u (c :: r))).val 0).toNat = m from HM.out]
        obtain ⟨v, h1, h3⟩ := h1
        have H1 := Lib.hid h1
        have H3 := Lib.hid h3
        clear h1 h3
        go_wp2_with fail
        refine (take_torn b m v r HL.out _ H1.out H3.out).mono ?_
        rintro e w2 ⟨rfl, h4, h5⟩
        go_wp2_with fail
        go_ret
        exact ⟨rfl, ⟨rfl, v, h4⟩, h2.trans h5⟩
      · have hr : rTxt (.ok u (c :: r)) = .ok (bs (r.take m)) (r.drop m) := by
          show (if r.length < c.toNat then Rd.bad 3 else _) = _
          rw [if_neg (by omega), hm]
        rw [hr]
        have HL := Lib.hid hlt
        have HM := Lib.hid hm
        clear hlt hm hr
        go_enter Tryz.func126, Tryz.ntmps126
        go_wp2_with fail
        refine (one_any b _ _ HX.out).mono ?_
        rintro e w1 ⟨rfl, h1, h2⟩
        rw [show ((rOne (Rd.ok u (c :: r))).val 0).toNat = m from HM.out]
        obtain ⟨v, h1, h3⟩ := h1
        have H1 := Lib.hid h1
        have H3 := Lib.hid h3
        clear h1 h3
        go_wp2_with fail
        refine (take_ok b m v r (by have := HL.out; omega) _ H1.out H3.out).mono ?_
        rintro e w2 ⟨v', v'', rfl, h4, h5, h6, h7⟩
        have cv := h4.text
        have H5 := Lib.hid h5
        have H6 := Lib.hid h6
        clear h4 h5 h6
        go_wp2_with fail
        go_ret
        exact ⟨rfl, ⟨v'', H5.out, H6.out⟩, h2.trans h7⟩
end Go.Proofs.YtghnbkkfghfifaaGreatDoor.E
