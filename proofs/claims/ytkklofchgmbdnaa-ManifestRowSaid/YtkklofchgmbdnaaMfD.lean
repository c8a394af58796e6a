/- Contracts of the program's manifest: Load, deleteNext. -/
import Derived.Test.YtkklofchgmbdnaaMfC
namespace Go.Proofs.Ytkklofchgmbdnaa
open Go.RowKit Go.Sort
open Crc Frm
attribute [local go_sem] Oper.semAt_some

/-- The files' names. -/
def mfS : ByteArray := ⟨#[109, 97, 110, 105, 102, 101, 115, 116]⟩
def nxS : ByteArray := ⟨#[109, 97, 110, 105, 102, 101, 115, 116, 46, 116, 109, 112]⟩
def mfL : List UInt8 := [109, 97, 110, 105, 102, 101, 115, 116]
def nxL : List UInt8 := [109, 97, 110, 105, 102, 101, 115, 116, 46, 116, 109, 112]
theorem OwnV.mono {w : World} {base base' : Nat} {e : TypeId} {v : Value} {us : List Value} (h : OwnV w base e v us) (hb : base' ≤ base) : OwnV w base' e v us := by
  refine ⟨h.1, ?_⟩
  rcases h.2 with h1 | ⟨g, cap, cur, hv, h1, h2⟩
  · exact .inl h1
  · exact .inr ⟨g, cap, cur, hv, Nat.le_trans hb h1, h2⟩
theorem Mv.still {w0 w w' : World} {dp : Nat} {O : Nat → Prop} {t : St} (h : DK w0 w dp t O) (hb : Below w.heap.size w w') : Mv w0 w dp O t w' := ⟨O, h.on hb, But.of_below hb, fun _ hk => .inl hk⟩
theorem Mv.behind {w0 w w1 w' : World} {dp : Nat} {O : Nat → Prop} {t : St} (hb : Below w.heap.size w w1) (h : Mv w0 w1 dp O t w') : Mv w0 w dp O t w' := by
  obtain ⟨O', h1, h2, h3⟩ := h
  exact ⟨O', h1, (But.of_below hb).trans h2 (fun _ hi => .inl hi), fun k hk => by rcases h3 k hk with h4 | h4; exact .inl h4; exact .inr (Nat.le_trans hb.size h4)⟩

/-- What Load tells. -/
def mLoad (t : St) : List Int × Nat := match fat t.D mfL with | none => ([], 3) | some f => mGet f.bs
set_option linter.unusedSimpArgs false in
set_option maxRecDepth 100000 in
set_option maxHeartbeats 3200000 in
theorem mload_any {w0 w : World} {dp : Nat} {t : St} {O : Nat → Prop} (h : DK w0 w dp t O) :
    Calls Try.prog 35 #[.pointer (some ⟨dp, 0, none⟩)] w fun e w' => ∃ v, e = .returned (.tuple #[v, .int .i64 (((mLoad t).2 : Nat) : Int)]) ∧ OwnV w' w.heap.size 2 v (i64V (mLoad t).1) ∧ Below w.heap.size w w' := by
  have RD := h.read mfS (by decide)
  have HF := fat_byte h.good mfL
  have HK := Lib.hid h
  change Calls _ _ _ _ (NewBytes w ((fat t.D mfL).getD Fl.zero).bs (fat t.D mfL).isSome) at RD
  have hb9 : ∀ f, fat t.D mfL = some f → f.bs.length ≤ 2000000 := fun f hf => by have := (h.good.at_ hf).2.2.2; have := h.good.tot_; have := h.good.room_; omega
  have HL : Hid (mLoad t = match fat t.D mfL with | none => ([], 3) | some f => mGet f.bs) := rfl
  have HF := Lib.hid HF
  clear h
  unfold mfS at RD
  cases hf : fat t.D mfL with
  | none =>
    rw [hf] at RD HL HF
    have RD := Lib.hid RD
    have hg : Hid (mLoad t = ([], 3)) := HL.out
    clear HL hb9 hf
    go_enter Try.func35, Try.ntmps35
    go_wp2_with fail
    refine RD.out.mono ?_
    rintro e w1 hN
    obtain ⟨x, xc, rfl, _, _, hb⟩ := NewBytes.out HK.out hN HF.out
    have HB := Lib.hid hb
    clear hN hb RD
    go_wp2
    go_ret2
    exact ⟨.slice none 0 0, by rw [hg.out]; rfl, by rw [hg.out]; exact OwnV.nil_ _ _ _, HB.out⟩
  | some f =>
    rw [hf] at RD HL HF
    have hl := hb9 f hf
    have RD := Lib.hid RD
    have hg : Hid (mLoad t = mGet f.bs) := HL.out
    clear HL hb9 hf
    go_enter Try.func35, Try.ntmps35
    go_wp2_with fail
    refine RD.out.mono ?_
    rintro e w1 hN
    obtain ⟨x, xc, rfl, hxs, _, hb⟩ := NewBytes.out HK.out hN HF.out
    have GT := Lib.hid (mget_any x f.bs.length xc f.bs w1 hxs hl)
    have HB := Lib.hid hb
    clear hN hb RD hxs
    go_wp2_with fail
    refine GT.out.mono ?_
    rintro e w2 ⟨v, rfl, hv, hb2⟩
    have H2 := Lib.hid (And.intro (hv.mono HB.out.size) (HB.out.trans (hb2.mono HB.out.size)))
    clear hv hb2 GT
    go_wp2
    go_ret2
    exact ⟨v, by rw [hg.out]; rfl, by rw [hg.out]; exact H2.out.1, H2.out.2⟩

/-- What deleteNext tells and leaves. -/
def delNext (t : St) : Int × St := if (fat t.D nxL).isSome = true then t.delete nxL else (0, t)
set_option linter.unusedSimpArgs false in
set_option maxRecDepth 100000 in
set_option maxHeartbeats 3200000 in
theorem delnext_any {w0 w : World} {dp : Nat} {t : St} {O : Nat → Prop} (h : DK w0 w dp t O) :
    Calls Try.prog 61 #[.pointer (some ⟨dp, 0, none⟩)] w fun e w' => e = .returned (.int .i64 (delNext t).1) ∧ Mv w0 w dp O (delNext t).2 w' := by
  have RD := h.read nxS (by decide)
  have HF := Lib.hid (fat_byte h.good nxL)
  have HK := Lib.hid h
  change Calls _ _ _ _ (NewBytes w ((fat t.D nxL).getD Fl.zero).bs (fat t.D nxL).isSome) at RD
  have DL := Lib.hid (fun (x : World) (hx : Below w.heap.size w x) => (HK.out.on hx).delete nxS (by decide))
  have HD : Hid (delNext t = if (fat t.D nxL).isSome = true then t.delete nxL else (0, t)) := rfl
  clear h
  unfold nxS at RD DL
  have RD := Lib.hid RD
  generalize (fat t.D nxL).isSome = is at *
  go_enter Try.func61, Try.ntmps61
  go_wp2_with fail
  refine RD.out.mono ?_
  rintro e w1 hN
  obtain ⟨x, xc, rfl, _, _, hb⟩ := NewBytes.out HK.out hN HF.out
  have HB := Lib.hid hb
  clear hN hb RD
  cases is with
  | false =>
    have hd : Hid (delNext t = (0, t)) := HD.out
    go_wp2
    go_ret
    exact ⟨by rw [hd.out]; rfl, by rw [hd.out]; exact Mv.still HK.out HB.out⟩
  | true =>
    have hd : Hid (delNext t = t.delete nxL) := HD.out
    go_wp2_with fail
    refine (DL.out _ HB.out).mono ?_
    rintro e w2 ⟨rfl, hmv⟩
    have HM := Lib.hid (Mv.behind HB.out hmv)
    clear hmv DL
    go_wp2
    go_ret
    exact ⟨by rw [hd.out]; rfl, by rw [hd.out]; exact HM.out⟩
end Go.Proofs.Ytkklofchgmbdnaa
