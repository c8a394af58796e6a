/- The document's log: is a file there; Delete of a file, only . The document's log: a segment's head; fix. The document's log: a segment is laid. The document's log: orphans: Delete of the files of segments. Contracts of the reference of frames: Get. Contracts of the reference of frames: Scan; Get and Scan of . The reference's Read. The document's log: the good segments of a disk's list. -/
import Derived.Test.YtamblmoedommfaaGreatDoorSqa
import Derived.Test.YtamblmoedommfaaGreatDoorSqc
import Derived.Test.YtamblmoedommfaaGreatDoorSqe
import Derived.Test.YtamblmoedommfaaGreatDoorSqf
import Derived.Test.YtamblmoedommfaaGreatDoorSqg
import Derived.Test.YtamblmoedommfaaGreatDoorSqh
import Derived.Deep.CutRange
import Derived.Deep.DeepCutAuto
import Derived.Shelf.Abstract
namespace Go.Proofs.YtamblmoedommfaaGreatDoor
set_option maxRecDepth 100000
set_option maxHeartbeats 40000000
set_option linter.unusedVariables false
set_option linter.unusedSimpArgs false
set_option linter.unusedSectionVars false
section
open Go.RowKit Go.Sort Go.Maps
open Crc Frm
open Sgn
attribute [local go_sem] Oper.semAt_some
section
variable {w0 w : World} {rp lp size : Nat} {g : Lg} {t : St} {D : Nat → Prop} {sa : Option Addr} {sc : Nat}
theorem RLK.setSegs (h : RLK w0 w rp lp size g t D sa sc) (l : List Int) (a2 : Option Addr) (c2 : Nat) (hrow : Row w w.heap.size a2 l.length c2 1 (intsC l)) (hnil : a2 = none → l.length = 0 ∧ c2 = 0) (hfar : ∀ k o, a2 = some ⟨k, o, none⟩ → ¬ D k ∧ k ≠ lp ∧ w0.heap.size ≤ k ∧ k < w.heap.size) :
 RLK w0 (w.setCell ⟨lp, 2, none⟩ (.slice a2 l.length c2)) rp lp size { g with segs := l } t D a2 c2 := by
 refine ⟨h.rk.but ((But.refl (fun k => k = lp) w).setCell (p := ⟨lp, 2, none⟩) (.inl rfl) _) (fun k hk e => h.own (e ▸ hk)) (fun k e => e ▸ h.base), ⟨heap_setCell_same w lp 2 _ _ (.slice a2 l.length c2) h.at_.blk, ?_, hnil⟩, h.base, h.own, fun k o e => ?_⟩
 · exact hrow.but ((But.refl (fun k => k = lp) w).setCell (p := ⟨lp, 2, none⟩) (.inl rfl) _) (fun _ k o e => (hfar k o e).2.1)
 obtain ⟨h1, h2, h3, h4⟩ := hfar k o e
 exact ⟨h1, h2, h3, by simpa using h4⟩
theorem RLK.setNext (h : RLK w0 w rp lp size g t D sa sc) (n : Int) : RLK w0 (w.setCell ⟨lp, 3, none⟩ (.int .i64 n)) rp lp size { g with next := n } t D sa sc := by
 refine ⟨h.rk.but ((But.refl (fun k => k = lp) w).setCell (p := ⟨lp, 3, none⟩) (.inl rfl) _) (fun k hk e => h.own (e ▸ hk)) (fun k e => e ▸ h.base), ⟨heap_setCell_same w lp 3 _ _ (.int .i64 n) h.at_.blk, ?_, h.at_.nil_⟩, h.base, h.own, fun k o e => ?_⟩
 · exact h.at_.row.but ((But.refl (fun k => k = lp) w).setCell (p := ⟨lp, 3, none⟩) (.inl rfl) _) (fun _ k o e => (h.far k o e).2.1)
 obtain ⟨h1, h2, h3, h4⟩ := h.far k o e
 exact ⟨h1, h2, h3, by simpa using h4⟩
theorem rlthere_any (h : RLK w0 w rp lp size g t D sa sc) (s : ByteArray) :
 Calls Tryz.prog 95 #[.pointer (some ⟨lp, 0, none⟩), .string s] w fun e w' => e = .returned (.bool (t.has s.data.toList)) ∧ Below w.heap.size w w' := by
 have c0 := h.at_.c0
 have RD := Qh (h.rk.read s)
 have HH : Hid ((fat t.D s.data.toList).isSome = t.has s.data.toList) := rfl
 clear h
 go_enter Tryz.func95, Tryz.ntmps95
 go_wp2_with fail
 refine RD.out.mono ?_
 rintro e w2 ⟨xa, xc, rfl, _, hb2⟩
 rw [HH.out]
 have B2 := Qh hb2
 clear hb2 RD
 go_wp2
 go_ret
 exact ⟨rfl, B2.out⟩
theorem rldrop_any (h : RLK w0 w rp lp size g t D sa sc) (s : ByteArray) :
 Calls Tryz.prog 40 #[.pointer (some ⟨lp, 0, none⟩), .string s] w fun e w' => e = .returned (.int .i64 (t.drop s.data.toList).1) ∧ RLv w0 w rp lp size (rlO D lp sa) g (t.drop s.data.toList).2 w' := by
 have TH := Qh (rlthere_any h s)
 have H := Qh h
 have HD : Hid (t.drop s.data.toList = if t.has s.data.toList = true then t.delete s.data.toList else (0, t)) := rfl
 clear h
 cases hv : t.has s.data.toList
 · rw [hv] at TH HD
   have hd := Qh (HD.out.trans (if_neg (by decide)))
   clear hv HD
   go_enter Tryz.func40, Tryz.ntmps40
   go_wp2_with fail
   refine TH.out.mono ?_
   rintro e w2 ⟨rfl, b2⟩
   have B2 := Qh b2
   clear b2 TH
   go_wp2
   go_ret
   rw [hd.out]
   exact ⟨rfl, H.out.still B2.out⟩
 rw [hv] at TH HD
 have hd := Qh (HD.out.trans (if_pos rfl))
 clear hv HD
 go_enter Tryz.func40, Tryz.ntmps40
 go_wp2_with fail
 refine TH.out.mono ?_
 rintro e w2 ⟨rfl, b2⟩
 have B2 := Qh b2
 have c0 := (H.out.on b2).at_.c0
 have DL := Qh ((H.out.on b2).rk.delete s)
 clear b2 TH
 go_wp2_with fail
 refine DL.out.mono ?_
 rintro e w3 ⟨rfl, hm⟩
 have M3 := Qh ((H.out.on B2.out).mv hm)
 clear hm DL c0
 go_wp2
 go_ret
 rw [hd.out]
 exact ⟨rfl, RLv.then (But.of_below B2.out) (fun _ hk => .inl hk) M3.out⟩
end
structure RLS (w0 W w : World) (O0 : Nat → Prop) (rp lp size : Nat) (g : Lg) (t : St) (D : Nat → Prop) (sa : Option Addr) (sc : Nat) (al : Option Addr) (cl : Nat) (ls : List Int) : Prop where
 k : RLK w0 w rp lp size g t D sa sc
 row : Row w w.heap.size al ls.length cl 1 (intsC ls)
 far : ∀ b o, al = some ⟨b, o, none⟩ → ¬ rlO D lp sa b ∧ W.heap.size ≤ b ∧ b < w.heap.size
 nil_ : al = none → ls.length = 0 ∧ cl = 0
 but : But O0 W w
 own : ∀ b, rlO D lp sa b → O0 b ∨ W.heap.size ≤ b
section
variable {w0 W w w' : World} {O0 : Nat → Prop} {rp lp size : Nat} {g : Lg} {t t' : St} {D : Nat → Prop} {sa : Option Addr} {sc : Nat} {al : Option Addr} {cl : Nat} {ls : List Int}
theorem RLS.on (h : RLS w0 W w O0 rp lp size g t D sa sc al cl ls) (hb : Below w.heap.size w w') : RLS w0 W w' O0 rp lp size g t D sa sc al cl ls :=
 ⟨h.k.on hb, (h.row.below hb Qn).more hb.size, fun b o e => by obtain ⟨h1, h2, h3⟩ := h.far b o e; exact ⟨h1, h2, Nat.lt_of_lt_of_le h3 hb.size⟩, h.nil_, h.but.trans (But.of_below (O := fun _ => False) hb) (fun _ hf => hf.elim), h.own⟩
theorem RLS.mv (h : RLS w0 W w O0 rp lp size g t D sa sc al cl ls) (hm : Mr w0 w rp D t' w') : ∃ D', RLS w0 W w' O0 rp lp size g t' D' sa sc al cl ls := by
 obtain ⟨D', h1, h2, h3⟩ := hm
 have hlO : ∀ b, rlO D' lp sa b → rlO D lp sa b ∨ w.heap.size ≤ b := fun b hb => by
  rcases hb with hb | hb
  · rcases h3 b hb with h4 | h4
    · exact .inl (.inl h4)
    exact .inr h4
  exact .inl (.inr hb)
 refine ⟨D', h.k.but h1 h2 h3, h.row.but h2 (fun _ b o e hd => (h.far b o e).1 (.inl hd)), fun b o e => ?_, h.nil_, h.but.trans h2 (fun b hb => h.own b (.inl hb)), fun b hb => ?_⟩
 · obtain ⟨f1, f2, f3⟩ := h.far b o e
   exact ⟨fun hb => by rcases hlO b hb with h4 | h4; exact f1 h4; omega, f2, Nat.lt_of_lt_of_le f3 h2.size⟩
 rcases hlO b hb with h4 | h4
 · exact h.own b h4
 exact .inr (Nat.le_trans h.but.size h4)
theorem RLS.end_ (h : RLS w0 W w O0 rp lp size g t D sa sc al cl ls) : RLv w0 W rp lp size O0 g t w := ⟨D, sa, sc, h.k, h.but, h.own⟩
theorem RLS.set (h : RLS w0 W w O0 rp lp size g t D sa sc al cl ls) (hW : w0.heap.size ≤ W.heap.size) : RLv w0 W rp lp size O0 { g with segs := ls } t (w.setCell ⟨lp, 2, none⟩ (.slice al ls.length cl)) := by
 refine ⟨D, al, cl, h.k.setSegs ls al cl h.row h.nil_ (fun k o e => ?_), h.but.setCell (p := ⟨lp, 2, none⟩) (h.own lp (.inr (.inl rfl))) _, fun b hb => ?_⟩
 · obtain ⟨f1, f2, f3⟩ := h.far k o e
   exact ⟨fun hd => f1 (.inl hd), fun hd => f1 (.inr (.inl hd)), Nat.le_trans hW f2, f3⟩
 rcases hb with hb | hb | ⟨o, hb⟩
 · exact h.own b (.inl hb)
 · exact h.own b (.inr (.inl hb))
 exact .inr (h.far b o hb).2.1
end
end
section
open Go.RowKit Go.Sort Go.Maps
open Crc Frm
open Sgn
attribute [local go_sem] Oper.semAt_some
theorem rhd_any (n : Int) (w : World) : Calls Tryz.prog 92 #[.int .i64 n] w fun e w' => ∃ v, e = .returned v ∧ OwnB w' w.heap.size 5 v (hdo n) ∧ Below w.heap.size w w' := by
 by_cases h : 0 ≤ n ∧ n ≤ 1073741824
 · obtain ⟨u, rfl⟩ := Int.eq_ofNat_of_zero_le h.1
   have e : hdo (u : Int) = head u := by unfold hdo; rw [if_pos h]; rfl
   rw [e]
   exact rhead_yes u (by omega) w
 have e : hdo n = [] := if_neg h
 rw [e]
 exact (rhead_no n h w).mono fun _ _ ⟨h1, h2⟩ => ⟨_, h1, OwnB.nil_ _ _ _, h2 ▸ Below.refl _ _⟩
theorem then_zero {r : Int × St} {f : St → Int × St} (h : r.1 = 0) : thenSt r f = f r.2 := by unfold thenSt; rw [if_neg (by simpa using h)]
theorem then_err {r : Int × St} {f : St → Int × St} (h : r.1 ≠ 0) : thenSt r f = r := if_pos h
def RlJ (w0 W : World) (O0 : Nat → Prop) (rp lp size : Nat) (g : Lg) (r : Int × St) (v : Value) (wx : World) : Prop := v = .int .i64 r.1 ∧ RLv w0 W rp lp size O0 g r.2 wx
section
variable {w0 w : World} {rp lp size : Nat} {g : Lg} {t : St} {D : Nat → Prop} {sa : Option Addr} {sc : Nat}
theorem rlfix_any (h : RLK w0 w rp lp size g t D sa sc) (name : ByteArray) (hnm : name.size ≤ maxLen) (a : Option Addr) (n c : Nat) (b : List Nat) (hs : Sl w w.heap.size a n c b) (hn : n ≤ 1100000) (hfar : 0 < n → ∀ k o, a = some ⟨k, o, none⟩ → ¬ rlO D lp sa k) :
 Calls Tryz.prog 94 #[.pointer (some ⟨lp, 0, none⟩), .string name, .slice a n c] w fun e w' =>
  e = .returned (.int .i64 (thenSt (thenSt (thenSt (t.drop fxL) fun t => t.write fxL b) fun t => t.sync fxL) fun t => t.rename fxL name.data.toList).1) ∧ RLv w0 w rp lp size (rlO D lp sa) g (thenSt (thenSt (thenSt (t.drop fxL) fun t => t.write fxL b) fun t => t.sync fxL) fun t => t.rename fxL name.data.toList).2 w' := by
 obtain ⟨r0, hr0⟩ : ∃ r0, r0 = t.drop fxL := ⟨_, rfl⟩
 obtain ⟨r1, hr1⟩ : ∃ r1, r1 = thenSt r0 fun t => t.write fxL b := ⟨_, rfl⟩
 obtain ⟨r2, hr2⟩ : ∃ r2, r2 = thenSt r1 fun t => t.sync fxL := ⟨_, rfl⟩
 obtain ⟨r3, hr3⟩ : ∃ r3, r3 = thenSt r2 fun t => t.rename fxL name.data.toList := ⟨_, rfl⟩
 have DR : Hid (Calls Tryz.prog 40 #[.pointer (some ⟨lp, 0, none⟩), .string ⟨#[102, 105, 120, 46, 116, 109, 112]⟩] w fun e w' => e = .returned (.int .i64 r0.1) ∧ RLv w0 w rp lp size (rlO D lp sa) g r0.2 w') := by
  rw [hr0]; exact rldrop_any h ⟨#[102, 105, 120, 46, 116, 109, 112]⟩
 rw [← hr0, ← hr1, ← hr2, ← hr3]
 have HS := Qh (Qa hs (Qa hn hfar))
 have R1 := Qh hr1
 have R2 := Qh hr2
 have R3 := Qh hr3
 have H := Qh h
 clear hr0 hr1 hr2 hr3 h hs hn hfar
 go_enter Tryz.func94, Tryz.ntmps94
 go_wp2_with fail
 refine DR.out.mono ?_
 rintro e w1 ⟨rfl, hm⟩
 have J0 := Qh hm
 clear hm DR
 go_upto_if 11 with fail
 go_cut [7] from 11 to 17 (fun v wx => RlJ w0 w (rlO D lp sa) rp lp size g r1 v wx)
 case first =>
  by_cases h0 : r0.1 = 0
  · have hb : (r0.1 == 0) = true := by simp [h0]
    have e1 := Qh ((R1.out).trans (then_zero h0))
    obtain ⟨D1, sa1, sc1, k1, b1, o1⟩ := J0.out
    have c0 := k1.at_.c0
    have K1 := Qh k1
    have B1 := Qh b1
    have O1 := Qh o1
    have sf := Sl.mv (O := rlO D lp sa) (O' := rlO D1 lp sa1) ⟨HS.out.1, HS.out.2.2⟩ b1 (fun k hk hn ho => by rcases o1 k ho with h4 | h4; exact hn h4; omega)
    have CT := Qh (k1.rk.write ⟨#[102, 105, 120, 46, 116, 109, 112]⟩ (by decide) a n c b sf.1 (by have := HS.out.2.1; omega) (fun hp k o e hd => sf.2 hp k o e (.inl hd)))
    clear k1 b1 o1 h0
    go_wp2_with fail
    refine CT.out.mono ?_
    rintro e wq ⟨rfl, hm⟩
    have M := Qh (RLv.then B1.out O1.out (K1.out.mv hm))
    clear hm CT c0
    go_wp2
    go_meet
    exact ⟨by rw [e1.out] <;> rfl, by rw [e1.out]; exact M.out⟩
  have hb : (r0.1 == 0) = false := by simp [h0]
  have e1 := Qh ((R1.out).trans (then_err h0))
  clear h0
  go_wp2
  go_meet
  exact ⟨by rw [e1.out], by rw [e1.out]; exact J0.out⟩
 case rest =>
 obtain ⟨rfl, hj⟩ := hcut
 generalize wc = w2 at *
 have J1 := Qh hj
 clear hj J0
 go_upto_if 19 with fail
 go_cut [7] from 19 to 24 (fun v wx => RlJ w0 w (rlO D lp sa) rp lp size g r2 v wx)
 case first =>
  by_cases h0 : r1.1 = 0
  · have hb : (r1.1 == 0) = true := by simp [h0]
    have e1 := Qh ((R2.out).trans (then_zero h0))
    obtain ⟨D1, sa1, sc1, k1, b1, o1⟩ := J1.out
    have c0 := k1.at_.c0
    have K1 := Qh k1
    have B1 := Qh b1
    have O1 := Qh o1
    have CT := Qh (k1.rk.sync ⟨#[102, 105, 120, 46, 116, 109, 112]⟩)
    clear k1 b1 o1 h0
    go_wp2_with fail
    refine CT.out.mono ?_
    rintro e wq ⟨rfl, hm⟩
    have M := Qh (RLv.then B1.out O1.out (K1.out.mv hm))
    clear hm CT c0
    go_wp2
    go_meet
    exact ⟨by rw [e1.out] <;> rfl, by rw [e1.out]; exact M.out⟩
  have hb : (r1.1 == 0) = false := by simp [h0]
  have e1 := Qh ((R2.out).trans (then_err h0))
  clear h0
  go_wp2
  go_meet
  exact ⟨by rw [e1.out], by rw [e1.out]; exact J1.out⟩
 case rest =>
 obtain ⟨rfl, hj⟩ := hcut
 generalize wc = w3 at *
 have J2 := Qh hj
 clear hj J1
 go_upto_if 26 with fail
 go_cut [7] from 26 to 32 (fun v wx => RlJ w0 w (rlO D lp sa) rp lp size g r3 v wx)
 case first =>
  by_cases h0 : r2.1 = 0
  · have hb : (r2.1 == 0) = true := by simp [h0]
    have e1 := Qh ((R3.out).trans (then_zero h0))
    obtain ⟨D1, sa1, sc1, k1, b1, o1⟩ := J2.out
    have c0 := k1.at_.c0
    have K1 := Qh k1
    have B1 := Qh b1
    have O1 := Qh o1
    have hnm := hnm
    have CT := Qh (k1.rk.rename ⟨#[102, 105, 120, 46, 116, 109, 112]⟩ name (by omega))
    clear k1 b1 o1 h0
    go_wp2_with fail
    refine CT.out.mono ?_
    rintro e wq ⟨rfl, hm⟩
    have M := Qh (RLv.then B1.out O1.out (K1.out.mv hm))
    clear hm CT c0
    go_wp2
    go_meet
    exact ⟨by rw [e1.out] <;> rfl, by rw [e1.out]; exact M.out⟩
  have hb : (r2.1 == 0) = false := by simp [h0]
  have e1 := Qh ((R3.out).trans (then_err h0))
  clear h0
  go_wp2
  go_meet
  exact ⟨by rw [e1.out], by rw [e1.out]; exact J2.out⟩
 case rest =>
 obtain ⟨rfl, hj⟩ := hcut
 generalize wc = w4 at *
 have J3 := Qh hj
 clear hj J2
 go_wp2
 go_ret
 exact ⟨rfl, J3.out⟩
end
end
section
open Go.RowKit Go.Sort Go.Maps
open Crc Frm
open Sgn
attribute [local go_sem] Oper.semAt_some
def RlL (w0 W : World) (O0 : Nat → Prop) (rp lp size : Nat) (g : Lg) (r : Int × St) (al : Option Addr) (cl : Nat) (ls : List Int) (v : Value) (wx : World) : Prop :=
 v = .int .i64 r.1 ∧ ∃ D sa sc, RLS w0 W wx O0 rp lp size g r.2 D sa sc al cl ls
theorem OwnV.lit0 (w : World) (base : Nat) (hb : base ≤ w.heap.size) : OwnV (w.alloc (.cells #[] 2)) base 2 (.slice (some ⟨w.heap.size, 0, none⟩) 0 0) (i64V []) := OwnV.lit_ 2 [] hb (by simp [maxLen])
theorem OwnV.far_ {w : World} {base : Nat} {e : TypeId} {a : Option Addr} {n c : Nat} {l : List Int} (h : OwnV w base e (.slice a n c) (i64V l)) : ∀ k o, a = some ⟨k, o, none⟩ → base ≤ k ∧ k < w.heap.size := fun k o e => by
 subst e
 exact h.at_base rfl
theorem hdo_lt (n : Int) : ∀ c ∈ hdo n, c < 256 := by
 intro c hc
 unfold hdo at hc
 split at hc
 · exact head_byte _ c hc
 cases hc
theorem hdo_few (n : Int) : (hdo n).length ≤ 12 := by
 unfold hdo
 split
 · rw [head_len]; exact Nat.le_refl _
 simp
section
variable {w0 w : World} {rp lp size : Nat} {g : Lg} {t : St} {D : Nat → Prop} {sa : Option Addr} {sc : Nat}
theorem rllay_any (h : RLK w0 w rp lp size g t D sa sc) (first : Int) (hlen : g.segs.length ≤ 1000) :
 Calls Tryz.prog 38 #[.pointer (some ⟨lp, 0, none⟩), .int .i64 first] w fun e w' => e = .returned (.int .i64 (lgLay g t first).1) ∧ RLv w0 w rp lp size (rlO D lp sa) (lgLay g t first).2.2 (lgLay g t first).2.1 w' := by
 have NM := Qh (rsname_any first w)
 have HY : Hid (lgLay g t first = if (lgTry g t first).1 = 0 then (0, (lgTry g t first).2, { g with segs := g.segs ++ [first] }) else if (lgTry g t first).1 = 42 then (42, (lgTry g t first).2, g) else ((lgTry g t first).1, ((lgTry g t first).2.delete (nm first)).2, g)) := rfl
 have HDD := Qh (drop_dead t (nm first))
 obtain ⟨r0, hr0⟩ : ∃ r0, r0 = t.drop (nm first) := ⟨_, rfl⟩
 obtain ⟨r1, hr1⟩ : ∃ r1, r1 = thenSt r0 fun t => t.write (nm first) (hdo first) := ⟨_, rfl⟩
 obtain ⟨r2, hr2⟩ : ∃ r2, r2 = thenSt r1 fun t => t.sync (nm first) := ⟨_, rfl⟩
 obtain ⟨r3, hr3⟩ : ∃ r3, r3 = thenSt r2 fun t => mSwap t (g.segs ++ [first]) := ⟨_, rfl⟩
 have hT : lgTry g t first = r3 := by rw [hr3, hr2, hr1, hr0]; rfl
 rw [hT] at HY
 have H := Qh h
 have HLN := Qh hlen
 have DR : Hid (∀ x, Below w.heap.size w x → Calls Tryz.prog 40 #[.pointer (some ⟨lp, 0, none⟩), .string ⟨(nm first).toArray⟩] x fun e w' => e = .returned (.int .i64 r0.1) ∧ RLv w0 x rp lp size (rlO D lp sa) g r0.2 w') := fun x hb => by
  rw [hr0]; exact rldrop_any (h.on hb) ⟨(nm first).toArray⟩
 rw [← hr0] at HDD
 have R1 := Qh hr1
 have R2 := Qh hr2
 have R3 := Qh hr3
 have hsz := nmS_size first
 have HZ := Qh hsz
 clear hr0 hr1 hr2 hr3 h hT hlen hsz
 go_enter Tryz.func38, Tryz.ntmps38
 go_wp2_with fail
 refine NM.out.mono ?_
 rintro e w1 ⟨rfl, b1⟩
 have B1 := Qh b1
 have DR := Qh (DR.out w1 b1)
 clear b1 NM
 go_wp2_with fail
 refine DR.out.mono ?_
 rintro e w2 ⟨rfl, hm⟩
 have J0 := Qh (RLv.then (But.of_below B1.out) (fun _ hk => .inl hk) hm)
 clear hm DR
 by_cases h0 : r0.1 = 0
 · have hb : (r0.1 != 0) = false := by simp [h0]
   have e1 := Qh ((R1.out).trans (then_zero h0))
   obtain ⟨D1, sa1, sc1, k1, b1, o1⟩ := J0.out
   have c2 := k1.at_.c2
   have c2a : (w2.alloc (.cells #[] 2)).cell? ⟨lp, 2, none⟩ = some (.slice sa1 g.segs.length sc1) := (((Below.refl w2.heap.size w2).alloc Qn _).cell (p := ⟨lp, 2, none⟩) k1.at_.lt).trans c2
   have HRW := Qh (Qa k1.at_.row k1.at_.nil_)
   have K1 := Qh k1
   have BO := Qh (Qa b1 o1)
   have HSW : w.heap.size ≤ w2.heap.size := b1.size
   clear k1 b1 o1 J0
   go_wp2_with (first
    | (at_builtin; refine wpList_append_ints rfl (.tmp 16) (.tmp 20) 50 rfl w2.heap.size _ Tryz.underlying50 info_i64m _ [] rfl (OwnV.lit0 w2 _ Qn) _ sa1 g.segs.length sc1 g.segs rfl (HRW.out.1.below (Qb.alloc Qn _) Qn) rfl HRW.out.2 (by have := HLN.out; simp; omega) (by simp) ?_; intro v3 w3 ho3 hg3 hat3; have hB3 : Below w2.heap.size w2 w3 := ((Below.refl w2.heap.size w2).alloc Qn _).grown hg3 (by simp) (fun k hk => ((OwnV.lit0 w2 _ Qn).at_base hk).1); have H3 := Qh (Qa ho3 hB3); clear ho3 hg3 hat3 hB3 c2a)
    | (at_builtin; refine wpList_append_ints rfl (.tmp 21) (.tmp 23) 50 rfl w2.heap.size _ Tryz.underlying50 info_i64m _ ([] ++ g.segs) rfl (H3.out.1.alloc _) _ (some ⟨w3.heap.size, 0, none⟩) 1 1 [first] rfl (lit_row w3 [first] (by simp [maxLen])) rfl (fun h => by cases h) (by have := HLN.out; simp; omega) (by have := H3.out.2.size; simp; omega) ?_; intro v4 w4 ho4 hg4 hat4; have hB4 : Below w2.heap.size w2 w4 := (H3.out.2.alloc H3.out.2.size _).grown hg4 (by have := H3.out.2.size; simp; omega) (fun k hk => (H3.out.1.at_base hk).1); have H4 := Qh (Qa ho4 hB4); clear ho4 hg4 hat4 hB4)
    | fail)
   obtain ⟨al, cl, rfl, hrow, _⟩ := OwnV.out_ H4.out.1
   have hfar := OwnV.far_ H4.out.1
   have hnil := OwnV.nil_own H4.out.1
   rw [List.nil_append] at *
   obtain ⟨ls, hls⟩ : ∃ ls, ls = g.segs ++ [first] := ⟨_, rfl⟩
   rw [← hls] at hrow hnil R3 HY ⊢
   have Q4 : Hid (RLS w0 w w4 (rlO D lp sa) rp lp size g r0.2 D1 sa1 sc1 al cl ls) := ⟨K1.out.on H4.out.2, hrow, fun b o e => ⟨fun hO => by have := K1.out.lt b hO; have := (hfar b o e).1; omega, Nat.le_trans HSW (hfar b o e).1, (hfar b o e).2⟩, fun e => by subst e; exact hnil _ _ rfl, BO.out.1.trans (But.of_below (O := fun _ => False) H4.out.2) (fun _ hf => hf.elim), BO.out.2⟩
   have c0 := Q4.out.k.at_.c0
   have HL9 := Qh hls
   clear hrow hfar hnil hls H3 H4 HRW c2 K1 BO HSW hb
   go_upto_region 6 with fail
   go_cut [6] from 25 to 32 (fun v wx => RlL w0 w (rlO D lp sa) rp lp size g r1 al cl ls v wx)
   case first =>
    refine wp_region_held_drew (S := fun x => x.cell? ⟨lp, 0, none⟩ = some (.pointer (some ⟨rp, 0, none⟩))) (by kernel_rfl) c0 (fun hHeld => ?_)
    refine qi 0 (by assumption) ?_
    iterate 6 (refine qk rfl (by kernel_rfl) (fun _ _ _ h => h) (by intro w hSw; (try dsimp only at hSw); go_simp; all_goals with_reducible rfl) (by (try simp only [Act.put, lz]); rfl) ?_)
    refine qo ?_
    refine qr 6 rfl (by kernel_rfl) (fun K hK => ?_)
    rw [if_pos (by rfl)]
    go_simp
    go_at_call 92
    refine (rhd_any first _).mono ?_
    rintro e w5 ⟨vh, rfl, oh, h5⟩
    have B5 : Below w4.heap.size w4 w5 := below_drew_of h5
    have Q5 := Q4.out.on B5
    obtain ⟨ah, ch, hv, hsl, hbase⟩ := OwnB.sl_base oh (hdo_lt first)
    subst hv
    have hfh : ∀ k o, ah = some ⟨k, o, none⟩ → ¬ D1 k := fun k o e hd => by have h1 := hbase k o e; have h2 := Q4.out.k.lt k (.inl hd); simp at h1; omega
    have WR := Qh (Q5.k.rk.write ⟨(nm first).toArray⟩ (by have := HZ.out; unfold maxLen; omega) ah _ ch (hdo first) hsl (by have := hdo_few first; omega) (fun _ => hfh))
    have Q5 := Qh Q5
    clear hbase hfh hsl oh h5 B5 c0 hHeld
    refine hK.out _ _ ?_ (fun hHeld => ?_)
    · exact Q5.out.k.at_.c0
    clear hK K
    try simp only [Act.put, lz]
    refine qr 7 rfl (by kernel_rfl) (fun K hK => ?_)
    rw [if_pos (by rfl)]
    go_simp
    go_at_call 66
    refine WR.out.mono ?_
    rintro e w6 ⟨rfl, hm⟩
    obtain ⟨D2, q2⟩ := Q5.out.mv hm
    have M := Qh q2
    clear hm q2 WR Q5 hHeld
    refine hK.out _ _ ?_ (fun hHeld => ?_)
    · exact M.out.k.at_.c0
    clear hK K
    try simp only [Act.put, lz]
    refine qi 8 (by assumption) ?_
    refine qk rfl (by kernel_rfl) (fun _ _ _ h => h) (by intro w hSw; (try dsimp only at hSw); go_simp; all_goals with_reducible rfl) (by (try simp only [Act.put, lz]); rfl) ?_
    refine qo ?_
    refine wpAnyH_done (by kernel_rfl) ?_ _
    go_wp2
    go_meet
    exact ⟨by rw [e1.out] <;> rfl, D2, sa1, sc1, by rw [e1.out]; exact M.out⟩
   case rest =>
   obtain ⟨rfl, hj⟩ := hcut
   generalize wc = w6 at *
   have J1 := Qh hj
   clear hj Q4 c0 e1
   go_upto_if 34 with fail
   go_cut [6] from 34 to 40 (fun v wx => RlL w0 w (rlO D lp sa) rp lp size g r2 al cl ls v wx)
   case first =>
    by_cases h0 : r1.1 = 0
    · have hb : (r1.1 == 0) = true := by simp [h0]
      have e1 := Qh ((R2.out).trans (then_zero h0))
      obtain ⟨D1, sa1, sc1, q1⟩ := J1.out
      have c0 := q1.k.at_.c0
      have Q1 := Qh q1
      have CT := Qh (q1.k.rk.sync ⟨(nm first).toArray⟩)
      clear q1 h0
      go_wp2_with fail
      refine CT.out.mono ?_
      rintro e wq ⟨rfl, hm⟩
      obtain ⟨D2, q2⟩ := Q1.out.mv hm
      have M := Qh q2
      clear hm q2 CT c0
      go_wp2
      go_meet
      exact ⟨by rw [e1.out] <;> rfl, D2, sa1, sc1, by rw [e1.out]; exact M.out⟩
    have hb : (r1.1 == 0) = false := by simp [h0]
    have e1 := Qh ((R2.out).trans (then_err h0))
    clear h0
    go_wp2
    go_meet
    exact ⟨by rw [e1.out], by rw [e1.out]; exact J1.out⟩
   case rest =>
   obtain ⟨rfl, hj⟩ := hcut
   generalize wc = w7 at *
   have J2 := Qh hj
   clear hj J1
   go_upto_if 42 with fail
   go_cut [6] from 42 to 48 (fun v wx => RlL w0 w (rlO D lp sa) rp lp size g r3 al cl ls v wx)
   case first =>
    by_cases h0 : r2.1 = 0
    · have hb : (r2.1 == 0) = true := by simp [h0]
      have e1 := Qh ((R3.out).trans (then_zero h0))
      obtain ⟨D1, sa1, sc1, q1⟩ := J2.out
      have c0 := q1.k.at_.c0
      have Q1 := Qh q1
      have CT := Qh (rswap5_any q1.k.rk ls al ls.length cl q1.row rfl (fun _ k o e hd => (q1.far k o e).1 (.inl hd)))
      clear q1 h0
      go_wp2_with fail
      refine CT.out.mono ?_
      rintro e wq ⟨rfl, hm⟩
      obtain ⟨D2, q2⟩ := Q1.out.mv hm
      have M := Qh q2
      clear hm q2 CT c0
      go_wp2
      go_meet
      exact ⟨by rw [e1.out] <;> rfl, D2, sa1, sc1, by rw [e1.out]; exact M.out⟩
    have hb : (r2.1 == 0) = false := by simp [h0]
    have e1 := Qh ((R3.out).trans (then_err h0))
    clear h0
    go_wp2
    go_meet
    exact ⟨by rw [e1.out], by rw [e1.out]; exact J2.out⟩
   case rest =>
   obtain ⟨rfl, hj⟩ := hcut
   generalize wc = w8 at *
   have J3 := Qh hj
   clear hj J2
   by_cases h3 : r3.1 = 0
   · have hb : (r3.1 == 0) = true := by simp [h3]
     obtain ⟨D1, sa1, sc1, q1⟩ := J3.out
     have c2 := q1.k.at_.c2
     have cz := q1.k.at_.z 2
     have Q1 := Qh q1
     have HF := Qh (HY.out.trans (if_pos h3))
     clear q1 h3
     go_wp2
     go_ret
     rw [HF.out]
     exact ⟨rfl, Q1.out.set H.out.rk.below.size⟩
   have hb : (r3.1 == 0) = false := by simp [h3]
   have HF := Qh (HY.out.trans (if_neg h3))
   clear h3
   by_cases h42 : r3.1 = 42
   · have hb2 : (r3.1 != 42) = false := by simp [h42]
     have HF := Qh (HF.out.trans (if_pos h42))
     have H42 := Qh h42
     obtain ⟨D1, sa1, sc1, q1⟩ := J3.out
     have Q1 := Qh q1
     clear h42 q1
     go_wp2
     go_ret
     rw [HF.out]
     exact ⟨by rw [H42.out]; rfl, Q1.out.end_⟩
   have hb2 : (r3.1 != 42) = true := by simp [h42]
   have HF := Qh (HF.out.trans (if_neg h42))
   obtain ⟨D1, sa1, sc1, q1⟩ := J3.out
   have c0 := q1.k.at_.c0
   have Q1 := Qh q1
   have CT := Qh (q1.k.rk.delete ⟨(nm first).toArray⟩)
   clear h42 q1
   go_wp2_with fail
   refine CT.out.mono ?_
   rintro e wq ⟨rfl, hm⟩
   obtain ⟨D2, q2⟩ := Q1.out.mv hm
   have M := Qh q2
   clear hm q2 CT c0
   go_wp2
   go_ret
   rw [HF.out]
   exact ⟨rfl, M.out.end_⟩
 have hb : (r0.1 != 0) = true := by simp [h0]
 have h42 : r0.1 = 42 := by rcases HDD.out with h | h; exact absurd h h0; exact h
 have e1 := Qh ((R1.out).trans (then_err h0))
 have e2 : Hid (r2 = r0) := by show r2 = r0; rw [R2.out, e1.out]; exact then_err h0
 have e3 : Hid (r3 = r0) := by show r3 = r0; rw [R3.out, e2.out]; exact then_err h0
 have HF : Hid (lgLay g t first = (42, r0.2, g)) := by
  show _ = _
  rw [HY.out, e3.out, if_neg h0, if_pos h42]
 have H42 := Qh h42
 clear h42 h0
 go_wp2
 go_ret
 rw [HF.out]
 exact ⟨by rw [H42.out]; rfl, J0.out⟩
end
end
section
open Go.RowKit Go.Sort Go.Maps
open Crc Frm
open Sgn
attribute [local go_sem] Oper.semAt_some
section
variable {w0 w : World} {rp lp size : Nat} {g : Lg} {t : St} {D : Nat → Prop} {sa : Option Addr} {sc : Nat}
theorem RK.listB {O : Nat → Prop} (h : RK w0 w rp t O) : Calls Tryz.prog 49 #[.pointer (some ⟨rp, 0, none⟩)] w fun e w' => ∃ a' c', e = .returned (.slice a' (strKeys t.D).length c') ∧ Row w' w'.heap.size a' (strKeys t.D).length c' 1 (strC (strKeys t.D)) ∧ Below w.heap.size w w' ∧ ∀ k o, a' = some ⟨k, o, none⟩ → w.heap.size ≤ k := by
 obtain ⟨a, c, es, h1⟩ := h.is
 have hk : strKeys t.D = es.map (·.s) := by rw [h1.D_]; exact rD_names es
 refine (rlist_anyB h1).mono fun e w' ⟨a', c', he, hr, hb, hf⟩ => ⟨a', c', ?_, ?_, hb, hf⟩
 · rw [hk, List.length_map]; exact he
 rw [hk, List.length_map]; exact hr
structure RlO (w0 w wx : World) (O0 : Nat → Prop) (rp lp size : Nat) (g : Lg) (na : Option Addr) (nc : Nat) (nl : List (List UInt8)) (r : Int × St) (k : Nat) (t : St) (D : Nat → Prop) (sa : Option Addr) (sc : Nat) : Prop where
 lk : RLK w0 wx rp lp size g t D sa sc
 row : Row wx wx.heap.size na nl.length nc 1 (strC nl)
 far : Far (rlO D lp sa) na nl.length
 but : But O0 w wx
 own : ∀ b, rlO D lp sa b → O0 b ∨ w.heap.size ≤ b
 todo : r = delAll (lgStray g (nl.drop k)) t
theorem RlO.mv {wx wy : World} {O0 : Nat → Prop} {na : Option Addr} {nc : Nat} {nl : List (List UInt8)} {r : Int × St} {k k2 : Nat} {t' : St} (h : RlO w0 w wx O0 rp lp size g na nc nl r k t D sa sc) (hm : Mr w0 wx rp D t' wy) (ht : r = delAll (lgStray g (nl.drop k2)) t') :
 ∃ D', RlO w0 w wy O0 rp lp size g na nc nl r k2 t' D' sa sc := by
 obtain ⟨D', h1, h2, h3⟩ := hm
 have hlO : ∀ b, rlO D' lp sa b → rlO D lp sa b ∨ wx.heap.size ≤ b := fun b hb => by
  rcases hb with hb | hb
  · rcases h3 b hb with h4 | h4
    · exact .inl (.inl h4)
    exact .inr h4
  exact .inl (.inr hb)
 have hrow := Row.mv (O := rlO D lp sa) (O' := rlO D' lp sa) ⟨h.row, h.far⟩ (h2.more (fun _ hk => .inl hk)) (fun b hb hn ho => by rcases hlO b ho with h4 | h4; exact hn h4; omega)
 exact ⟨D', h.lk.but h1 h2 h3, hrow.1, hrow.2, h.but.trans h2 (fun b hb => h.own b (.inl hb)), fun b hb => by rcases hlO b hb with h4 | h4; exact h.own b h4; exact .inr (Nat.le_trans h.but.size h4), ht⟩
theorem RlO.on {wx wy : World} {O0 : Nat → Prop} {na : Option Addr} {nc : Nat} {nl : List (List UInt8)} {r : Int × St} {k k2 : Nat} (h : RlO w0 w wx O0 rp lp size g na nc nl r k t D sa sc) (hb : Below wx.heap.size wx wy) (ht : r = delAll (lgStray g (nl.drop k2)) t) :
 RlO w0 w wy O0 rp lp size g na nc nl r k2 t D sa sc :=
 ⟨h.lk.on hb, (h.row.below hb Qn).more hb.size, h.far, h.but.trans (But.of_below (O := fun _ => False) hb) (fun _ hf => hf.elim), h.own, ht⟩
theorem stray_step (g : Lg) (nl : List (List UInt8)) (k : Nat) (hk : k < nl.length) : lgStray g (nl.drop k) = if isStray g (nl.getD k []) then nl.getD k [] :: lgStray g (nl.drop (k + 1)) else lgStray g (nl.drop (k + 1)) := by
 have e : nl.drop k = nl.getD k [] :: nl.drop (k + 1) := by rw [List.getD_eq_getElem?_getD, List.getElem?_eq_getElem hk]; exact (List.drop_eq_getElem_cons hk)
 rw [e]
 show List.filter _ _ = _
 rw [List.filter_cons]
 rfl
theorem take_has (l : List Int) (j : Nat) (x : Int) (hj : j < l.length) : (l.take (j + 1)).contains x = ((l.take j).contains x || (l.getD j 0 == x)) := by
 have e : [l[j]].contains x = (l[j] == x) := by
  by_cases h : l[j] = x
  · simp [h]
  have h2 : ¬ x = l[j] := fun e => h e.symm
  simp [h, h2]
 rw [List.take_succ_eq_append_getElem hj, List.contains_append, e, List.getD_eq_getElem?_getD, List.getElem?_eq_getElem hj]
 rfl
theorem not_or_and (a b : Bool) : (!(a || b)) = (!a && !b) := by cases a <;> cases b <;> rfl
theorem rlorph_any (h : RLK w0 w rp lp size g t D sa sc) (hlen : g.segs.length ≤ 1000) :
 Calls Tryz.prog 37 #[.pointer (some ⟨lp, 0, none⟩)] w fun e w' => e = .returned (.int .i64 (lgClean g t).1) ∧ RLv w0 w rp lp size (rlO D lp sa) g (lgClean g t).2 w' := by
 have LS := h.rk.listB
 have hgood := h.rk.good
 have c0 := h.at_.c0
 have hshort : ∀ s ∈ strKeys t.D, s.length ≤ 1000 := by
  intro s hs
  obtain ⟨f, hf⟩ := Option.isSome_iff_exists.1 ((names_mem hgood s).1 hs)
  have := nmOk_short (hgood.at_ hf).1; omega
 obtain ⟨nl, hnl⟩ : ∃ nl, nl = strKeys t.D := ⟨_, rfl⟩
 have hn64 : nl.length ≤ 64 := by rw [hnl, size_names]; exact hgood.size_
 rw [← hnl] at LS hshort
 have HCL : Hid (lgClean g t = delAll (lgStray g nl) t) := by show _ = _; rw [hnl]; rfl
 obtain ⟨r, hr⟩ : ∃ r, r = delAll (lgStray g nl) t := ⟨_, rfl⟩
 rw [← hr] at HCL
 have LS := Qh LS
 have H := Qh h
 have HS := Qh hshort
 have HR := Qh hr
 clear hshort hgood h hnl hr
 go_enter Tryz.func37, Tryz.ntmps37
 go_wp2_with fail
 refine LS.out.mono ?_
 rintro e w2 ⟨na, nc, rfl, hrow, b2, hbase⟩
 have Q0 : Hid (RlO w0 w w2 (rlO D lp sa) rp lp size g na nc nl r 0 t D sa sc) := ⟨H.out.on b2, hrow, fun _ k o e hO => by have := hbase k o e; have := H.out.lt k hO; omega, But.of_below b2, fun b hb => .inl hb, by rw [HR.out]; rfl⟩
 have hmx := hrow.max
 have hle := hrow.le
 unfold maxLen at hmx
 obtain ⟨n, hn⟩ : ∃ n, n = nl.length := ⟨_, rfl⟩
 rw [← hn] at hle hn64 ⊢
 have HN := Qh hn
 clear hrow b2 hbase LS c0 hn
 go_wp2_with fail
 go_loopw [4] (fun i wx => ∃ (k : Nat) (t : St) (D1 : Nat → Prop), k ≤ n ∧ i = .int .i64 (k : Int) ∧ RlO w0 w wx (rlO D lp sa) rp lp size g na nc nl r k t D1 sa sc) (fun i _ => n - (intOf i).toNat)
 case atStart => exact ⟨0, t, D, Nat.zero_le _, rfl, Q0.out⟩
 case round =>
  clear Q0
  obtain ⟨k, tk, D1, hk, rfl, hq⟩ := hrel
  have Q1 := Qh hq
  clear hq
  by_cases hlt : k < n
  · have hkl : k < nl.length := by have := HN.out; omega
    obtain ⟨b, o, hna, hbl, hc⟩ := Q1.out.row.at_ (by omega)
    subst hna
    have hcx := hc k (by omega)
    obtain ⟨x, hx⟩ : ∃ x, x = nl.getD k [] := ⟨_, rfl⟩
    have cx : wr.cell? ⟨b, o + k, none⟩ = some (.string ⟨x.toArray⟩) := hcx.trans (by rw [hx])
    have hxm : x ∈ nl := by rw [hx, List.getD_eq_getElem?_getD, List.getElem?_eq_getElem hkl]; exact List.getElem_mem _
    have hxs := HS.out x hxm
    have HST := Qh (stray_step g nl k hkl)
    rw [← hx] at HST
    have HC := Qh (Qa cx hbl)
    have FI := rfirst_any ⟨x.toArray⟩ (by show x.length ≤ _; omega) wr
    change Calls _ _ _ _ (fun e w' => e = .returned (.tuple #[.int .i64 (rfst x).1, .bool (rfst x).2]) ∧ wr = w') at FI
    rw [rfst_fst] at FI
    have FI := Qh FI
    have hlt' : (k : Int) < (n : Int) := by omega
    have hk0 : (0 : Int) ≤ (k : Int) := by omega
    have HIS : Hid (isStray g x = ((fst x).2 && !g.segs.contains (fst x).1)) := rfl
    generalize fst x = fx at *
    obtain ⟨f1, f2⟩ := fx
    simp only [] at FI HIS
    have HK := Qh (Qa hlt hkl)
    clear hcx hc hx hxm hxs hbl hkl hlt
    go_wp2_with fail
    refine FI.out.mono ?_
    rintro e w9 ⟨rfl, rfl⟩
    clear FI cx
    obtain ⟨m, hm⟩ : ∃ m, m = g.segs.length := ⟨_, rfl⟩
    have c2 := Q1.out.lk.at_.c2
    rw [← hm] at c2
    have hm1000 : m ≤ 1000 := by omega
    have HM := Qh hm
    have HC2 := Qh c2
    have HRS := Qh Q1.out.lk.at_.row
    clear hm c2
    go_wp2_with fail
    go_loopw [6, 7] (fun v i wx => ∃ j : Nat, j ≤ m ∧ i = .int .i64 (j : Int) ∧ v = .bool (f2 && !(g.segs.take j).contains f1) ∧ wx = wr) (fun _ i _ => m - (intOf i).toNat)
    case atStart => exact ⟨0, Nat.zero_le _, rfl, by simp, rfl⟩
    case round =>
     obtain ⟨j, hj, rfl, rfl, hwx⟩ := hrel
     subst hwx
     by_cases hjl : j < m
     · have hjl2 : j < g.segs.length := by have := HM.out; omega
       obtain ⟨b3, o3, hsa, hb3, hc3⟩ := HRS.out.at_ (by omega)
       have c2 := HC2.out
       rw [hsa] at c2
       have cj := hc3 j (by omega)
       simp only [intsC] at cj
       have HTK := Qh (take_has g.segs j f1 hjl2)
       generalize g.segs.getD j 0 = y at *
       have hjl' : (j : Int) < (m : Int) := by omega
       have hj0 : (0 : Int) ≤ (j : Int) := by omega
       have HJ := Qh hjl
       clear hc3 hb3 hsa hjl2 hj hjl
       cases hv : (f2 && !(g.segs.take j).contains f1)
       · have HV : Hid ((f2 && !(g.segs.take (j + 1)).contains f1) = false) := by show _ = _; rw [HTK.out, not_or_and, ← Bool.and_assoc, hv]; rfl
         clear hv
         go_wp2
         go_roundw
         case rel => exact ⟨j + 1, HJ.out, by go_num, by rw [HV.out], by trivial⟩
         case measure => have := HJ.out; simp [intOf]; omega
       by_cases hy : y = f1
       · have HV : Hid ((f2 && !(g.segs.take (j + 1)).contains f1) = false) := by show _ = _; rw [HTK.out, not_or_and, ← Bool.and_assoc, hv, hy]; simp
         have hy2 : (y != f1) = false := by simp [hy]
         clear hv hy
         go_wp2
         go_roundw
         case rel => exact ⟨j + 1, HJ.out, by go_num, by rw [HV.out], by trivial⟩
         case measure => have := HJ.out; simp [intOf]; omega
       have HV : Hid ((f2 && !(g.segs.take (j + 1)).contains f1) = true) := by show _ = _; rw [HTK.out, not_or_and, ← Bool.and_assoc, hv]; simp [hy]
       have hy2 : (y != f1) = true := by simp [hy]
       clear hv hy
       go_wp2
       go_roundw
       case rel => exact ⟨j + 1, HJ.out, by go_num, by rw [HV.out], by trivial⟩
       case measure => have := HJ.out; simp [intOf]; omega
     have HIS2 : Hid ((f2 && !(g.segs.take j).contains f1) = isStray g x) := by
      show _ = _
      rw [List.take_of_length_le (by have := HM.out; omega), HIS.out]
     have hjl' : ¬ (j : Int) < (m : Int) := by omega
     rw [HIS2.out]
     have c2 := HC2.out
     clear HIS2 hj hjl
     cases hs : isStray g x
     · have HT : Hid (lgStray g (nl.drop k) = lgStray g (nl.drop (k + 1))) := HST.out.trans (if_neg (by simp [hs]))
       clear hs
       go_wp2
       go_roundw
       case rel => exact ⟨k + 1, tk, D1, HK.out.1, by go_num, Q1.out.on Qb (by rw [Q1.out.todo, HT.out])⟩
       case measure => have := HK.out; simp [intOf]; omega
     have HT : Hid (lgStray g (nl.drop k) = x :: lgStray g (nl.drop (k + 1))) := HST.out.trans (if_pos hs)
     have HTD : Hid (r = thenSt (tk.delete x) (delAll (lgStray g (nl.drop (k + 1))))) := by
      show _ = _
      rw [Q1.out.todo, HT.out]; rfl
     have c0 := Q1.out.lk.at_.c0
     have cx := HC.out.1
     have QD := Qh (Q1.out.on (k2 := k) (Below.drew Qb) Q1.out.todo)
     have DL := Qh (QD.out.lk.rk.delete ⟨x.toArray⟩)
     clear hs
     go_wp2_with fail
     refine wp_region_held_drew (S := fun y => y.cell? ⟨lp, 0, none⟩ = some (.pointer (some ⟨rp, 0, none⟩)) ∧ y.cell? ⟨b, o + k, none⟩ = some (.string ⟨x.toArray⟩)) (by kernel_rfl) ⟨c0, cx⟩ (fun hHeld => ?_)
     refine qi 0 (by assumption) ?_
     iterate 8 (refine qk rfl (by kernel_rfl) (fun _ _ _ h => h) (by intro w hSw; (try dsimp only at hSw); go_simp; all_goals with_reducible rfl) (by (try simp only [Act.put, lz]); rfl) ?_)
     refine qo ?_
     have hb8 := HC.out.2
     have hnD : ¬ rlO D1 lp sa b := Q1.out.far (by have := HK.out; omega) b o rfl
     have hnP := Q1.out.lk.own
     refine qr 8 rfl (by kernel_rfl) (fun K hK => ?_)
     rw [if_pos (by rfl)]
     go_simp
     go_at_call 65
     refine DL.out.mono ?_
     rintro e w4 ⟨rfl, hm⟩
     have hm' := hm
     obtain ⟨D4, k4, b4, o4⟩ := hm
     have M := Qh hm'
     have hlp := Q1.out.lk.at_.lt
     refine hK.out _ _ ?_ (fun hHeld => ?_)
     · exact ⟨(b4.cell (b := lp) (o := 0) hlp hnP).trans c0, (b4.cell (b := b) (o := o + k) hb8 (fun h => hnD (.inl h))).trans cx⟩
     clear hK K
     try simp only [Act.put, lz]
     refine qi 9 (by assumption) ?_
     refine qk rfl (by kernel_rfl) (fun _ _ _ h => h) (by intro w hSw; (try dsimp only at hSw); go_simp; all_goals with_reducible rfl) (by (try simp only [Act.put, lz]); rfl) ?_
     refine qo ?_
     refine wpAnyH_done (by kernel_rfl) ?_ _
     obtain ⟨v, hv⟩ : ∃ v, v = tk.delete x := ⟨_, rfl⟩
     change Hid (Mr w0 wr.drew rp D1 (tk.delete x).2 w4) at M
     change Hid (r = thenSt (tk.delete x) _) at HTD
     rw [← hv] at HTD M
     have hv1 : (tk.delete (⟨x.toArray⟩ : ByteArray).data.toList).1 = v.1 := by rw [hv]
     rw [hv1]
     clear hv1 hv k4 b4 o4 hm' hb8 hnD hnP hlp c0 cx hHeld DL
     by_cases hv0 : v.1 = 0
     · have hb : (v.1 != 0) = false := by simp [hv0]
       have ht : r = delAll (lgStray g (nl.drop (k + 1))) v.2 := HTD.out.trans (then_zero hv0)
       obtain ⟨D5, q5⟩ := QD.out.mv M.out ht
       have Q5 := Qh q5
       clear q5 ht hv0
       go_wp2
       go_roundw
       case rel => exact ⟨k + 1, v.2, D5, HK.out.1, by go_num, Q5.out⟩
       case measure => have := HK.out; simp [intOf]; omega
     have hb : (v.1 != 0) = true := by simp [hv0]
     have ht : r = v := HTD.out.trans (then_err hv0)
     have E5 := Qh (RLv.then QD.out.but QD.out.own (QD.out.lk.mv M.out))
     have HF := Qh (HCL.out.trans ht)
     clear ht hv0
     go_wp2
     go_ret
     rw [HF.out]
     exact ⟨rfl, E5.out⟩
  have hkn : k = n := by omega
  have ht : lgClean g t = (0, tk) := by rw [HCL.out, Q1.out.todo, hkn, HN.out, List.drop_length]; rfl
  have HF := Qh ht
  have hlt' : ¬ (k : Int) < (n : Int) := by omega
  have E5 : Hid (RLv w0 w rp lp size (rlO D lp sa) g tk wr) := ⟨D1, sa, sc, Q1.out.lk, Q1.out.but, Q1.out.own⟩
  clear ht hkn
  go_wp2
  go_ret
  rw [HF.out]
  exact ⟨rfl, E5.out⟩
end
end
section
open Go.RowKit
open Crc Frm
theorem getPost_zero {w w' : World} {e : Ending} {er : Nat} (he : e = .returned (.tuple #[.agg #[.int .i64 0, .int .i64 0, .slice none 0 0], .int .i64 0, .int .i64 (er : Int)])) (hb : Below w.heap.size w w') :
 ∃ ba bc, e = .returned (.tuple #[.agg #[.int .i64 Fr.zero.ty, .int .i64 Fr.zero.seq, .slice ba Fr.zero.body.length bc], .int .i64 ((0 : Nat) : Int), .int .i64 (er : Int)]) ∧
  Sl w' w'.heap.size ba Fr.zero.body.length bc Fr.zero.body ∧ Below w.heap.size w w' ∧ (∀ b o, ba = some ⟨b, o, none⟩ → w.heap.size ≤ b) :=
 ⟨none, 0, he, Sl.nil_, hb, fun b o h => by cases h⟩
structure GotAt (W wx : World) (p : Value) (ty sq : Int) (n : Nat) (body : List Nat) : Prop where
 ex : ∃ g2 ba bc, p = .pointer (some ⟨g2, 0, none⟩) ∧ wx.heap[g2]? = some (.cells #[.int .i64 ty, .int .i64 sq, .slice ba n bc] 69 (0, 0)) ∧ Sl wx wx.heap.size ba n bc body ∧ Below W.heap.size W wx ∧ W.heap.size ≤ g2 ∧ ∀ b o, ba = some ⟨b, o, none⟩ → W.heap.size ≤ b
theorem got_set {W w3 : World} {g n bc : Nat} {ba : Option Addr} {ty sq : Int} {body : List Nat} (hblk : w3.heap[g]? = some (.cells #[.int .i64 0, .int .i64 0, .slice none 0 0] 69 (0, 0))) (hB3 : Below W.heap.size W w3) (hg : W.heap.size ≤ g)
 (hs4 : Sl w3 w3.heap.size ba n bc body) (hbb : ∀ b o, ba = some ⟨b, o, none⟩ → W.heap.size ≤ b) (hne : 0 < n → ∀ b o, ba = some ⟨b, o, none⟩ → b ≠ g) :
 GotAt W (((w3.setCell ⟨g, 0, none⟩ (.int .i64 ty)).setCell ⟨g, 1, none⟩ (.int .i64 sq)).setCell ⟨g, 2, none⟩ (.slice ba n bc)) (.pointer (some ⟨g, 0, none⟩)) ty sq n body :=
 ⟨⟨g, ba, bc, rfl, heap_setCells_whole (cs := [Value.int .i64 0, .int .i64 0, .slice none 0 0]) [Value.int .i64 ty, .int .i64 sq, .slice ba n bc] rfl hblk,
  (((hs4.far ⟨g, 0, none⟩ _ hne).far ⟨g, 1, none⟩ _ hne).far ⟨g, 2, none⟩ _ hne).more (by simp),
  ((hB3.setCell (p := ⟨g, 0, none⟩) hg _).setCell (p := ⟨g, 1, none⟩) hg _).setCell (p := ⟨g, 2, none⟩) hg _, hg, hbb⟩⟩
theorem below_set3 {W w3 : World} {g : Nat} {v0 v1 v2 : Value} (hB3 : Below W.heap.size W w3) (hg : W.heap.size ≤ g) : Below W.heap.size W (((w3.setCell ⟨g, 0, none⟩ v0).setCell ⟨g, 1, none⟩ v1).setCell ⟨g, 2, none⟩ v2) :=
 ((hB3.setCell (p := ⟨g, 0, none⟩) hg _).setCell (p := ⟨g, 1, none⟩) hg _).setCell (p := ⟨g, 2, none⟩) hg _
theorem rget_any (a : Option Addr) (len cap : Nat) (bs : List Nat) (w : World) (hs : Sl w w.heap.size a len cap bs) :
 Calls Tryz.prog 167 #[.slice a len cap] w fun e w' => ∃ ba bc, e = .returned (.tuple #[.agg #[.int .i64 (get bs).1.ty, .int .i64 (get bs).1.seq, .slice ba (get bs).1.body.length bc], .int .i64 (((get bs).2.1 : Nat) : Int), .int .i64 (((get bs).2.2 : Nat) : Int)]) ∧
  Sl w' w'.heap.size ba (get bs).1.body.length bc (get bs).1.body ∧ Below w.heap.size w w' ∧ (∀ b o, ba = some ⟨b, o, none⟩ → w.heap.size ≤ b) := by
 have hbl := hs.length
 have hle := hs.le
 have hmx := hs.max
 unfold maxLen at hmx
 have hB0 : Below w.heap.size w (w.alloc (.cells #[.int .i64 0, .int .i64 0, .slice none 0 0] 69)) := Qb.alloc Qn _
 have hr0 := heap_alloc_new w (.cells #[.int .i64 0, .int .i64 0, .slice none 0 0] 69)
 have hw0 := heap_setCells_whole (cs := [Value.int .i64 0, .int .i64 0, .slice none 0 0]) [Value.int .i64 0, .int .i64 0, .slice none 0 0] rfl hr0
 by_cases h2 : len < 2
 · have hg : get bs = (Fr.zero, 0, 13) := by unfold Frm.get; rw [if_pos (by omega)]
   rw [hg]
   have h2' : (len : Int) < 2 := by omega
   have H := Qh (Qa hB0 (Qa hr0 hw0))
   clear hB0 hr0 hw0
   go_enter Tryz.func167, Tryz.ntmps167
   go_wp2_with (first
    | (refine wpList_store_mid (by rfl) 69 (.tmp 2) (.tmp 10) (by rfl) w.heap.size 0 #[.int .i64 0, .int .i64 0, .slice none 0 0] (by rfl) (by rfl) (there_of_block H.out.2.1 (by simp)) (by kernel_rfl) zero_cells ?_))
   refine bodyPost_ret (results_row_tmp2 rfl _ _ w.heap.size _ _ _ _ rfl H.out.2.2 Tryz.underlying69 (by rfl) (by kernel_rfl)) (by rfl) ?_
   exact getPost_zero rfl (below_setCells' _ Qn _ _ H.out.1)
 have h2' : (2 : Int) ≤ (len : Int) := by omega
 have s2 := (hs.take (k := 2) (by omega)).below hB0 Qn |>.more hB0.size
 have c2 : ∀ w, (Instr.slice 38 (.slice a len cap) none (some (.int .i64 2)) none).run Tryz.prog w = .ok (.slice a 2 cap) w := run_cut_to (P := Tryz.prog) 38 5 Tryz.underlying38 info_u8 a len cap 2 (by omega)
 have hv : szOf bs < 65536 := by
  have h1 := val_lt (bs.take 2) (fun c hc => hs.byte c (List.mem_of_mem_take hc))
  have h2 : (bs.take 2).length = 2 := by rw [List.length_take]; omega
  rw [h2] at h1
  exact h1
 have RD := Qh (rread_any a 2 cap (bs.take 2) _ s2 (by decide))
 have Hsz : Hid (val (bs.take 2) = szOf bs) := rfl
 rw [Hsz.out] at RD
 have Hget : Hid (get bs = if 1800 < szOf bs then (Fr.zero, 0, 12) else if bs.length < szOf bs + 11 then (Fr.zero, 0, 13) else if val ((bs.take (szOf bs + 11)).drop (szOf bs + 7)) ≠ more 0 (bs.take (szOf bs + 7)) then (Fr.zero, 0, 14)
  else if ¬ (frOf bs).right then (Fr.zero, 0, 12) else (frOf bs, szOf bs + 11, 0)) := by show _ = _; unfold Frm.get; rw [if_neg (by omega)]
 have Hbody : Hid ((frOf bs).body = (bs.take (szOf bs + 7)).drop 7) := rfl
 obtain ⟨n, hn⟩ : ∃ n, n = szOf bs := ⟨_, rfl⟩
 rw [← hn] at RD hv Hget Hbody
 have Hn := Qh hn
 clear hn Hsz s2
 have hwn : IntKind.i64.wrap (n : Int) = (n : Int) := by rw [IntKind.wrap_i64]; omega
 have H := Qh (Qa hB0 (Qa hr0 hw0))
 clear hB0 hr0 hw0
 by_cases h18 : 1800 < n
 · have hg := Hget.out
   rw [if_pos h18] at hg
   rw [hg]
   clear hg
   have h18' : (1800 : Int) < (n : Int) := by omega
   go_enter Tryz.func167, Tryz.ntmps167
   go_wp2_with fail
   refine RD.out.mono ?_
   rintro e w1 ⟨rfl, rfl⟩
   go_wp2_with (first
    | (refine wpList_store_mid (by rfl) 69 (.tmp 2) (.tmp 17) (by rfl) w.heap.size 0 #[.int .i64 0, .int .i64 0, .slice none 0 0] (by rfl) (by rfl) (there_of_block H.out.2.1 (by simp)) (by kernel_rfl) zero_cells ?_))
   refine bodyPost_ret (results_row_tmp2 rfl _ _ w.heap.size _ _ _ _ rfl H.out.2.2 Tryz.underlying69 (by rfl) (by kernel_rfl)) (by rfl) ?_
   exact getPost_zero rfl (below_setCells' _ Qn _ _ H.out.1)
 by_cases h11 : len < n + 11
 · have hg := Hget.out
   rw [if_neg h18, if_pos (by omega)] at hg
   rw [hg]
   clear hg
   have h18' : (n : Int) ≤ 1800 := by omega
   have h11' : (len : Int) < (n : Int) + 11 := by omega
   go_enter Tryz.func167, Tryz.ntmps167
   go_wp2_with fail
   refine RD.out.mono ?_
   rintro e w1 ⟨rfl, rfl⟩
   go_wp2_with (first
    | (refine wpList_store_mid (by rfl) 69 (.tmp 2) (.tmp 23) (by rfl) w.heap.size 0 #[.int .i64 0, .int .i64 0, .slice none 0 0] (by rfl) (by rfl) (there_of_block H.out.2.1 (by simp)) (by kernel_rfl) zero_cells ?_))
   refine bodyPost_ret (results_row_tmp2 rfl _ _ w.heap.size _ _ _ _ rfl H.out.2.2 Tryz.underlying69 (by rfl) (by kernel_rfl)) (by rfl) ?_
   exact getPost_zero rfl (below_setCells' _ Qn _ _ H.out.1)
 have h18' : (n : Int) ≤ 1800 := by omega
 have h11' : (n : Int) + 11 ≤ (len : Int) := by omega
 have hg0 := Hget.out
 rw [if_neg h18, if_neg (by omega)] at hg0
 have Hg := Qh hg0
 clear hg0 Hget
 obtain ⟨W, hW⟩ : ∃ W, W = w.alloc (.cells #[.int .i64 0, .int .i64 0, .slice none 0 0] 69) := ⟨_, rfl⟩
 have hBW : Below w.heap.size w W := by rw [hW]; exact H.out.1
 have hrW : W.heap[w.heap.size]? = some (.cells #[.int .i64 0, .int .i64 0, .slice none 0 0] 69 (0, 0)) := by rw [hW]; exact H.out.2.1
 have HW := Qh hW
 have HbW := Qh (Qa hBW hrW)
 have sW := (hs.below hBW Qn).more hBW.size
 have s1 := sW.take (k := n + 7) (by omega)
 have sm := sW.mid (j := n + 7) (k := n + 11) (by omega) (by omega)
 have c1 : ∀ w, (Instr.slice 38 (.slice a len cap) none (some (.int .i64 ((n : Int) + 7))) none).run Tryz.prog w = .ok (.slice a (n + 7) cap) w := fun w => by
  have := run_cut_to (P := Tryz.prog) 38 5 Tryz.underlying38 info_u8 a len cap (n + 7) (by omega) w
  rw [show ((n + 7 : Nat) : Int) = (n : Int) + 7 from by omega] at this; exact this
 have cm : ∀ w, (Instr.slice 38 (.slice a len cap) (some (.int .i64 ((n : Int) + 7))) (some (.int .i64 ((n : Int) + 11))) none).run Tryz.prog w = .ok (.slice (fromA a cap (n + 7)) 4 (cap - (n + 7))) w := fun w => by
  have := run_cut_mid (P := Tryz.prog) 38 5 Tryz.underlying38 info_u8 a len cap (n + 7) (n + 11) (by omega) (by omega) w
  rw [show ((n + 7 : Nat) : Int) = (n : Int) + 7 from by omega, show ((n + 11 : Nat) : Int) = (n : Int) + 11 from by omega, show n + 11 - (n + 7) = 4 from by omega] at this; exact this
 rw [show n + 11 - (n + 7) = 4 from by omega] at sm
 generalize fromA a cap (n + 7) = am at sm cm
 generalize cap - (n + 7) = km at sm cm
 have s37 := sW.mid (j := 3) (k := 7) (by omega) (by omega)
 have c37 : ∀ w, (Instr.slice 38 (.slice a len cap) (some (.int .i64 3)) (some (.int .i64 7)) none).run Tryz.prog w = .ok (.slice (fromA a cap 3) 4 (cap - 3)) w := run_cut_mid (P := Tryz.prog) 38 5 Tryz.underlying38 info_u8 a len cap 3 7 (by omega) (by omega)
 rw [show 7 - 3 = 4 from rfl] at s37
 generalize fromA a cap 3 = a3 at s37 c37
 generalize cap - 3 = k3 at s37 c37
 have s7 := sW.mid (j := 7) (k := n + 7) (by omega) (by omega)
 have c7 : ∀ w, (Instr.slice 38 (.slice a len cap) (some (.int .i64 7)) (some (.int .i64 ((n : Int) + 7))) none).run Tryz.prog w = .ok (.slice (fromA a cap 7) n (cap - 7)) w := fun w => by
  have := run_cut_mid (P := Tryz.prog) 38 5 Tryz.underlying38 info_u8 a len cap 7 (n + 7) (by omega) (by omega) w
  rw [show ((n + 7 : Nat) : Int) = (n : Int) + 7 from by omega, show n + 7 - 7 = n from by omega] at this; exact this
 rw [show n + 7 - 7 = n from by omega] at s7
 generalize fromA a cap 7 = a7 at s7 c7
 generalize cap - 7 = k7 at s7 c7
 obtain ⟨b, o, rfl, hblt, hcell⟩ := sW.at_ (by omega)
 have hc2 := hcell 2 (by omega)
 obtain ⟨ty, hty⟩ : ∃ t, t = bs.getD 2 0 := ⟨_, rfl⟩
 have hty8 : ty < 256 := by rw [hty]; exact hs.lt (by omega)
 rw [← hty] at hc2
 obtain ⟨sq, hsq⟩ : ∃ t, t = val ((bs.take 7).drop 3) := ⟨_, rfl⟩
 have hsql : sq < 4294967296 := by
  have h1 := val_lt _ (fun c hc => s37.byte c hc)
  rw [s37.length] at h1
  rw [hsq]; exact h1
 have Hts := Qh (Qa hty hsq)
 clear hty hcell
 have R37 := Qh (fun (w' : World) (hb : Below W.heap.size W w') => rread_any a3 4 k3 ((bs.take 7).drop 3) w' ((s37.below hb Qn).more hb.size) (by decide))
 rw [← hsq] at R37
 have hwty : IntKind.i64.wrap (ty : Int) = (ty : Int) := by rw [IntKind.wrap_i64]; omega
 have hwsq : IntKind.i64.wrap (sq : Int) = (sq : Int) := by rw [IntKind.wrap_i64]; omega
 have hwn7 : IntKind.i64.wrap ((n : Int) + 7) = (n : Int) + 7 := by rw [IntKind.wrap_i64]; omega
 have hwn11 : IntKind.i64.wrap ((n : Int) + 11) = (n : Int) + 11 := by rw [IntKind.wrap_i64]; omega
 have RM := Qh (fun (w' : World) (hb : Below W.heap.size W w') => rread_any am 4 km _ w' ((sm.below hb Qn).more hb.size) (by decide))
 have RO := Qh (fun (w' : World) (hb : Below W.heap.size W w') => rof_any _ (n + 7) cap _ w' ((s1.below hb Qn).more hb.size))
 have hml := more_lt 0 (bs.take (n + 7))
 have Hval : Hid (∃ z1 z2, z1 = val ((bs.take (n + 11)).drop (n + 7)) ∧ z2 = more 0 (bs.take (n + 7))) := ⟨_, _, rfl, rfl⟩
 obtain ⟨z1, z2, hz1, hz2⟩ := Hval.out
 rw [← hz1] at RM Hg
 rw [← hz2] at RO Hg hml
 have hwz : IntKind.u64.wrap (z2 : Int) = (z2 : Int) := by rw [IntKind.wrap_u64]; omega
 have S7 := Qh s7
 have Hr := Qh (rright_any (frOf bs))
 clear hsq s37 sm s1 s7 hz1 hz2 Hval sW hs hBW hrW hW
 by_cases hz : z1 = z2
 · subst hz
   have r1 : ((z1 : Int) != (z1 : Int)) = false := by simp
   have i2 : (2 : Int) < (len : Int) := by omega
   have hg0 := Hg.out
   rw [if_neg (by simp)] at hg0
   have Hg2 := Qh hg0
   clear hg0 Hg
   go_enter Tryz.func167, Tryz.ntmps167
   go_wp2_with fail
   refine RD.out.mono ?_
   rintro e w1 ⟨rfl, rfl⟩
   clear RD H
   go_wp2_with fail
   rw [← HW.out]
   refine wp_region_held_drew (S := fun w' => Below W.heap.size W w') (by kernel_rfl) (Below.drew Qb) (fun hHeld => ?_)
   refine qi 0 (by assumption) ?_
   iterate 6 (refine qk rfl (by kernel_rfl) (fun _ _ _ h => h) (by intro w hSw; (try dsimp only at hSw); go_simp; all_goals with_reducible rfl) (by (try simp only [Act.put, lz]); rfl) ?_)
   refine qo ?_
   refine take_first (i := 6) rfl (by kernel_rfl) (by kernel_rfl) (by kernel_rfl) (fun _ _ _ h => h) (GivesIf.call (by rfl) (fun w => ?_) (fun w hS => RM.out w hS)) (by assumption) ?_
   · go_simp
     all_goals with_reducible rfl
   try simp only [Act.put, lz]
   refine qi 7 (by assumption) ?_
   iterate 4 (refine qk rfl (by kernel_rfl) (fun _ _ _ h => h) (by intro w hSw; (try dsimp only at hSw); go_simp; all_goals with_reducible rfl) (by (try simp only [Act.put, lz]); rfl) ?_)
   refine qo ?_
   refine take_first (i := 11) rfl (by kernel_rfl) (by kernel_rfl) (by kernel_rfl) (fun _ _ _ h => h) (GivesIf.call (by rfl) (fun w => ?_) (fun w hS => RO.out w hS)) (by assumption) ?_
   · go_simp
     all_goals with_reducible rfl
   try simp only [Act.put, lz]
   refine qi 12 (by assumption) ?_
   iterate 2 (refine qk rfl (by kernel_rfl) (fun _ _ _ h => h) (by intro w hSw; (try dsimp only at hSw); go_simp; all_goals with_reducible rfl) (by (try simp only [Act.put, lz]); rfl) ?_)
   refine qo ?_
   refine wpAnyH_done (by kernel_rfl) ?_ _
   clear RM RO hml hwz hHeld
   go_wp2_with fail
   go_cut [6] from 7 (fun p wx => GotAt W wx p (ty : Int) (sq : Int) n ((bs.take (n + 7)).drop 7))
   case first =>
    refine wp_region_held_drew (S := fun w' => w'.cell? ⟨b, o + 2, none⟩ = some (.int .u8 (ty : Int)) ∧ Below W.heap.size W w') (by kernel_rfl) ⟨hc2, Below.drew (Below.drew Qb)⟩ (fun hHeld => ?_)
    refine qi 0 (by assumption) ?_
    iterate 6 (refine qk rfl (by kernel_rfl) (fun _ _ _ h => h) (by intro w hSw; (try dsimp only at hSw); go_simp; all_goals with_reducible rfl) (by (try simp only [Act.put, lz]); rfl) ?_)
    refine qo ?_
    refine take_first (i := 6) rfl (by kernel_rfl) (by kernel_rfl) (by kernel_rfl) (fun _ _ _ h => h) (GivesIf.call (by rfl) (fun w => ?_) (fun w hS => R37.out w hS.2)) (by assumption) ?_
    · go_simp
      all_goals with_reducible rfl
    try simp only [Act.put, lz]
    refine qi 7 (by assumption) ?_
    refine qk rfl (by kernel_rfl) (fun _ _ _ h => h) (by intro w hSw; (try dsimp only at hSw); go_simp; all_goals with_reducible rfl) (by (try simp only [Act.put, lz]); rfl) ?_
    refine qo (qi 9 (by assumption) ?_)
    iterate 4 (refine qk rfl (by kernel_rfl) (fun _ _ _ h => h) (by intro w hSw; (try dsimp only at hSw); go_simp; all_goals with_reducible rfl) (by (try simp only [Act.put, lz]); rfl) ?_)
    refine qo ?_
    clear R37 c1 cm c37 c7 hwsq hwn7 hwn11
    refine wpAnyH_ready (rs := [8, 15]) (by kernel_rfl) (by simp) ?_
    refine AllReadyH.cons rfl (fun K hK => ?_) (AllReadyH.cons rfl (fun K hK => ?_) AllReadyH.nil)
    · go_simp
      have hc3 : (W.drew.drew.alloc (.cells #[] 5)).cell? ⟨b, o + 2, none⟩ = some (.int .u8 (ty : Int)) := (World.cell?_alloc_past _ _ _ hblt).trans hc2
      have hb3 : Below W.heap.size W (W.drew.drew.alloc (.cells #[] 5)) := (Below.drew (Below.drew Qb)).alloc Qn _
      have hown0 : OwnB (W.drew.drew.alloc (.cells #[] 5)) W.heap.size 5 (.slice (some ⟨W.heap.size, 0, none⟩) 0 0) [] := OwnB.lit (w := W.drew.drew) _ [] Qn (by decide)
      refine hK.out _ _ ?_ (fun hHeld => ?_)
      · exact ⟨hc3, hb3⟩
      clear hK K
      try simp only [Act.put, lz]
      refine wpAnyH_ready (rs := [13, 15]) (by kernel_rfl) (by simp) ?_
      refine AllReadyH.cons rfl (fun K hK => ?_) (AllReadyH.cons rfl (fun K hK => ?_) AllReadyH.nil)
      · rw [if_pos (by rfl)]
        refine wp_append_sl (.tmp 47) (.tmp 51) _ rfl W.heap.size _ Tryz.underlying38 info_u8 (.slice (some ⟨W.heap.size, 0, none⟩) 0 0) [] rfl hown0 _ a7 n k7 _ rfl (S7.out.below hb3 Qn) (by simp; omega) (by simp) ?_
        intro v1 w3 ho1 hg1 hat1
        rw [List.nil_append] at ho1
        have hB3 : Below W.heap.size W w3 := hb3.grown hg1 (by simp) (fun k hk => by simp [Value.ownBlock] at hk; omega)
        have hc4 : w3.cell? ⟨b, o + 2, none⟩ = some (.int .u8 (ty : Int)) := hg1.cell hc3 (by simp [Value.ownBlock]; omega)
        refine hK.out _ _ ?_ (fun hHeld => ?_)
        · exact ⟨hc4, hB3⟩
        clear hK K
        try simp only [Act.put, lz]
        obtain ⟨ba, bc, hv1, hs4, hbb⟩ := ho1.sl_base S7.out.byte
        rw [S7.out.length] at hv1 hs4
        subst hv1
        refine qi 14 (by assumption) ?_
        refine qk rfl (by kernel_rfl) (fun _ _ _ h => h) (by intro w hSw; (try dsimp only at hSw); go_simp; all_goals with_reducible rfl) (by (try simp only [Act.put, lz]); rfl) ?_
        refine qo ?_
        refine qr 15 rfl (by kernel_rfl) (fun K hK => ?_)
        rw [if_pos (by rfl)]
        go_simp
        have hlt3 := Nat.lt_of_lt_of_le hblt hB3.size
        refine hK.out _ _ ?_ (fun hHeld => ?_)
        · exact ⟨(World.cell?_alloc_past _ _ _ hlt3).trans hc4, hB3.alloc hB3.size _⟩
        clear hK K
        try simp only [Act.put, lz]
        refine qr 16 rfl (by kernel_rfl) (fun K hK => ?_)
        rw [if_pos (by rfl)]
        go_simp
        refine hK.out _ _ ?_ (fun hHeld => ?_)
        · exact ⟨(World.cell?_alloc_past _ _ _ hlt3).trans hc4, hB3.alloc hB3.size _⟩
        clear hK K
        try simp only [Act.put, lz]
        refine wpAnyH_done (by kernel_rfl) ?_ _
        go_wp2_with fail
        go_meet
        case rel => exact ⟨⟨w3.heap.size, ba, bc, rfl, heap_alloc_new _ _, (hs4.below (Qb.alloc Qn _) Qn).more (by simp), hB3.alloc hB3.size _, hB3.size, hbb⟩⟩
      rw [if_pos (by rfl)]
      go_simp
      refine hK.out _ _ ?_ (fun hHeld => ?_)
      · exact ⟨(World.cell?_alloc_past _ _ _ (by simp; omega)).trans hc3, hb3.alloc (by simp) _⟩
      clear hK K
      try simp only [Act.put, lz]
      refine qr 13 rfl (by kernel_rfl) (fun K hK => ?_)
      rw [if_pos (by rfl)]
      have hb4 : Below W.heap.size W ((W.drew.drew.alloc (.cells #[] 5)).alloc (.cells #[.int .i64 0, .int .i64 0, .slice none 0 0] 69)) := hb3.alloc (by simp) _
      refine wp_append_sl (.tmp 47) (.tmp 51) _ rfl W.heap.size _ Tryz.underlying38 info_u8 (.slice (some ⟨W.heap.size, 0, none⟩) 0 0) [] rfl (hown0.alloc _) _ a7 n k7 _ rfl (S7.out.below hb4 Qn) (by simp; omega) (by simp; omega) ?_
      intro v1 w3 ho1 hg1 hat1
      rw [List.nil_append] at ho1
      have hB3 : Below W.heap.size W w3 := hb4.grown hg1 (by simp; omega) (fun k hk => by simp [Value.ownBlock] at hk; omega)
      have hc4 : w3.cell? ⟨b, o + 2, none⟩ = some (.int .u8 (ty : Int)) := hg1.cell ((World.cell?_alloc_past _ _ _ (by simp; omega)).trans hc3) (by simp [Value.ownBlock]; omega)
      have hz3 := (hg1.block (W.heap.size + 1) (by simp) (by simp [Value.ownBlock])).trans (heap_alloc2_new W.drew.drew _ _)
      refine hK.out _ _ ?_ (fun hHeld => ?_)
      · exact ⟨hc4, hB3⟩
      clear hK K
      try simp only [Act.put, lz]
      obtain ⟨ba, bc, hv1, hs4, hbb⟩ := ho1.sl_base S7.out.byte
      rw [S7.out.length] at hv1 hs4
      subst hv1
      refine qi 14 (by assumption) ?_
      refine qk rfl (by kernel_rfl) (fun _ _ _ h => h) (by intro w hSw; (try dsimp only at hSw); go_simp; all_goals with_reducible rfl) (by (try simp only [Act.put, lz]); rfl) ?_
      refine qo ?_
      have x0 := (cell_of_row w3 (W.heap.size + 1) 0 _ _ _ hz3).trans rfl
      have x1 := (cell_of_row w3 (W.heap.size + 1) 1 _ _ _ hz3).trans rfl
      have x2 := (cell_of_row w3 (W.heap.size + 1) 2 _ _ _ hz3).trans rfl
      have y0 := frozen_of_row w3 (W.heap.size + 1) 0 _ _ hz3
      have y1 := frozen_of_row w3 (W.heap.size + 1) 1 _ _ hz3
      have y2 := frozen_of_row w3 (W.heap.size + 1) 2 _ _ hz3
      refine qr 16 rfl (by kernel_rfl) (fun K hK => ?_)
      rw [if_pos (by rfl)]
      go_simp
      refine hK.out _ _ ?_ (fun hHeld => ?_)
      · exact ⟨cell_far3 hc4 (by simp; omega), below_set3 hB3 (by omega)⟩
      clear hK K
      try simp only [Act.put, lz]
      refine wpAnyH_done (by kernel_rfl) ?_ _
      go_wp2_with fail
      go_meet
      case rel =>
       refine got_set hz3 hB3 (by omega) hs4 hbb (fun _ b' o' h' e' => ?_)
       subst h' e'
       simp [Value.ownBlock] at hat1
       try omega
    rw [if_pos (by rfl)]
    go_simp
    have hc3 : (W.drew.drew.alloc (.cells #[.int .i64 0, .int .i64 0, .slice none 0 0] 69)).cell? ⟨b, o + 2, none⟩ = some (.int .u8 (ty : Int)) := (World.cell?_alloc_past _ _ _ hblt).trans hc2
    have hb3 : Below W.heap.size W (W.drew.drew.alloc (.cells #[.int .i64 0, .int .i64 0, .slice none 0 0] 69)) := (Below.drew (Below.drew Qb)).alloc Qn _
    refine hK.out _ _ ?_ (fun hHeld => ?_)
    · exact ⟨hc3, hb3⟩
    clear hK K
    try simp only [Act.put, lz]
    refine qr 8 rfl (by kernel_rfl) (fun K hK => ?_)
    go_simp
    have hb4 := hb3.alloc (by simp) (.cells #[] 5)
    have hown0 : OwnB ((W.drew.drew.alloc (.cells #[.int .i64 0, .int .i64 0, .slice none 0 0] 69)).alloc (.cells #[] 5)) W.heap.size 5 (.slice (some ⟨W.heap.size + 1, 0, none⟩) 0 0) [] := by
     have := OwnB.lit (w := W.drew.drew.alloc (.cells #[.int .i64 0, .int .i64 0, .slice none 0 0] 69)) (base := W.heap.size) 5 [] (by simp) (by decide)
     simpa using this
    refine hK.out _ _ ?_ (fun hHeld => ?_)
    · exact ⟨(World.cell?_alloc_past _ _ _ (by simp; omega)).trans hc3, hb4⟩
    clear hK K
    try simp only [Act.put, lz]
    refine qr 13 rfl (by kernel_rfl) (fun K hK => ?_)
    rw [if_pos (by rfl)]
    refine wp_append_sl (.tmp 47) (.tmp 51) _ rfl W.heap.size _ Tryz.underlying38 info_u8 (.slice (some ⟨W.heap.size + 1, 0, none⟩) 0 0) [] rfl hown0 _ a7 n k7 _ rfl (S7.out.below hb4 Qn) (by simp; omega) (by simp; omega) ?_
    intro v1 w3 ho1 hg1 hat1
    rw [List.nil_append] at ho1
    have hB3 : Below W.heap.size W w3 := hb4.grown hg1 (by simp; omega) (fun k hk => by simp [Value.ownBlock] at hk; omega)
    have hc4 : w3.cell? ⟨b, o + 2, none⟩ = some (.int .u8 (ty : Int)) := hg1.cell ((World.cell?_alloc_past _ _ _ (by simp; omega)).trans hc3) (by simp [Value.ownBlock]; omega)
    have hz3 := (hg1.block W.heap.size (by simp; omega) (by simp [Value.ownBlock])).trans ((heap_alloc_old _ _ (by simp)).trans (heap_alloc_new W.drew.drew _))
    refine hK.out _ _ ?_ (fun hHeld => ?_)
    · exact ⟨hc4, hB3⟩
    clear hK K
    try simp only [Act.put, lz]
    obtain ⟨ba, bc, hv1, hs4, hbb⟩ := ho1.sl_base S7.out.byte
    rw [S7.out.length] at hv1 hs4
    subst hv1
    refine qi 14 (by assumption) ?_
    refine qk rfl (by kernel_rfl) (fun _ _ _ h => h) (by intro w hSw; (try dsimp only at hSw); go_simp; all_goals with_reducible rfl) (by (try simp only [Act.put, lz]); rfl) ?_
    refine qo ?_
    have x0 := (cell_of_row w3 (W.heap.size) 0 _ _ _ hz3).trans rfl
    have x1 := (cell_of_row w3 (W.heap.size) 1 _ _ _ hz3).trans rfl
    have x2 := (cell_of_row w3 (W.heap.size) 2 _ _ _ hz3).trans rfl
    have y0 := frozen_of_row w3 (W.heap.size) 0 _ _ hz3
    have y1 := frozen_of_row w3 (W.heap.size) 1 _ _ hz3
    have y2 := frozen_of_row w3 (W.heap.size) 2 _ _ hz3
    refine qr 16 rfl (by kernel_rfl) (fun K hK => ?_)
    rw [if_pos (by rfl)]
    go_simp
    refine hK.out _ _ ?_ (fun hHeld => ?_)
    · exact ⟨cell_far3 hc4 (by simp; omega), below_set3 hB3 (by omega)⟩
    clear hK K
    try simp only [Act.put, lz]
    refine wpAnyH_done (by kernel_rfl) ?_ _
    go_wp2_with fail
    go_meet
    case rel =>
     refine got_set hz3 hB3 (by omega) hs4 hbb (fun _ b' o' h' e' => ?_)
     subst h' e'
     simp [Value.ownBlock] at hat1
     try omega
   case rest =>
    obtain ⟨g2, ba, bc, rfl, hg2, hsc, hB4, hge, hbb⟩ := hcut.ex
    obtain ⟨hBW, hrW⟩ := HbW.out
    have hltW := lt_of_heap hrW
    have hr4 := (hB4.block w.heap.size hltW).trans hrW
    have hBw := hBW.trans (hB4.mono hBW.size)
    have k0 := (cell_of_row wc g2 0 _ _ _ hg2).trans rfl
    have k1 := (cell_of_row wc g2 1 _ _ _ hg2).trans rfl
    have k2 := (cell_of_row wc g2 2 _ _ _ hg2).trans rfl
    have hgl2 := lt_of_heap hg2
    have hneq : g2 ≠ w.heap.size := by omega
    have Hbn : Hid (0 < n → ∀ b o, ba = some ⟨b, o, none⟩ → b ≠ w.heap.size) := fun _ b o h => by have := hbb b o h; omega
    have Hbb : Hid (∀ b o, ba = some ⟨b, o, none⟩ → w.heap.size ≤ b) := fun b o h => by have := hbb b o h; omega
    have hf1 : (frOf bs).ty = (ty : Int) := by rw [Hts.out.1]; rfl
    have hf2 : (frOf bs).seq = (sq : Int) := by rw [Hts.out.2]; rfl
    have hf3 : (frOf bs).body.length = n := by rw [Hbody.out, S7.out.length]
    have RG := Qh (Hr.out (ty : Int) (sq : Int) n hf1 hf2 hf3 ba bc)
    have H4 := Qh (Qa hr4 (Qa hBw (Qa hsc hg2)))
    have Hf := Qh (Qa hf1 (Qa hf2 (Qa hf3 Hbody.out)))
    clear hbb hf1 hf2 hf3 hr4 hBw hsc hg2 hBW hrW hcut hB4 Hr Hbody
    go_wp2_with fail
    refine (RG.out _).mono ?_
    rintro e w5 ⟨rfl, hb5⟩
    have hg5 := (hb5.block g2 hgl2).trans H4.out.2.2.2
    have hr5 := (hb5.block w.heap.size (lt_of_heap H4.out.1)).trans H4.out.1
    have hB5 := H4.out.2.1.trans (hb5.mono H4.out.2.1.size)
    have hs5 := (H4.out.2.2.1.below hb5 Qn).more hb5.size
    have H5 := Qh (Qa hr5 (Qa hB5 hs5))
    have G5 := Qh hg5
    clear hr5 hB5 hs5 k0 k1 k2 H4 hb5 hg5
    by_cases hr : (frOf bs).right
    · rw [decide_eq_true hr]
      have k0 := (cell_of_row w5 g2 0 _ _ _ G5.out).trans rfl
      have k1 := (cell_of_row w5 g2 1 _ _ _ G5.out).trans rfl
      have k2 := (cell_of_row w5 g2 2 _ _ _ G5.out).trans rfl
      have hone : (#[Value.int .i64 (ty : Int), .int .i64 (sq : Int), .slice ba n bc].all fun x => x.oneCell') = true := by kernel_rfl
      have hg := Hg2.out
      rw [if_neg (by simpa using hr)] at hg
      have Hg' := Qh hg
      have Hone := Qh hone
      clear hg hone Hg2 hr
      go_wp2_with (first
       | (refine wpList_store_mid (by rfl) 69 (.tmp 2) (.tmp 58) (by rfl) w.heap.size 0 #[.int .i64 (ty : Int), .int .i64 (sq : Int), .slice ba n bc] (by rfl) (by rfl) (there_of_block H5.out.1 (by simp)) (by kernel_rfl) Hone.out ?_))
      have hw := heap_setCells_whole (cs := [Value.int .i64 0, .int .i64 0, .slice none 0 0]) [Value.int .i64 (ty : Int), .int .i64 (sq : Int), .slice ba n bc] rfl H5.out.1
      refine bodyPost_ret (results_row_tmp2 rfl _ _ w.heap.size _ _ _ _ rfl hw Tryz.underlying69 (by rfl) (by kernel_rfl)) (by rfl) ?_
      rw [Hg'.out]
      simp only []
      rw [Hf.out.1, Hf.out.2.1, Hf.out.2.2.1, Hf.out.2.2.2]
      exact ⟨ba, bc, ret_tup3 rfl (by show Value.int .i64 ((n : Int) + 11) = Value.int .i64 ((n + 11 : Nat) : Int); go_num) rfl, (Sl.farCells _ Hbn.out _ _ H5.out.2.2).more (by rw [size_setCells]; exact Nat.le_refl _), below_setCells' _ Qn _ _ H5.out.2.1, Hbb.out⟩
    rw [decide_eq_false hr]
    have hg := Hg2.out
    rw [if_pos (by simpa using hr)] at hg
    have Hg' := Qh hg
    clear hg Hg2 hr
    go_wp2_with (first
     | (refine wpList_store_mid (by rfl) 69 (.tmp 2) (.tmp 57) (by rfl) w.heap.size 0 #[.int .i64 0, .int .i64 0, .slice none 0 0] (by rfl) (by rfl) (there_of_block H5.out.1 (by simp)) (by kernel_rfl) zero_cells ?_))
    have hw := heap_setCells_whole (cs := [Value.int .i64 0, .int .i64 0, .slice none 0 0]) [Value.int .i64 0, .int .i64 0, .slice none 0 0] rfl H5.out.1
    refine bodyPost_ret (results_row_tmp2 rfl _ _ w.heap.size _ _ _ _ rfl hw Tryz.underlying69 (by rfl) (by kernel_rfl)) (by rfl) ?_
    rw [Hg'.out]
    exact getPost_zero rfl (below_setCells' _ Qn _ _ H5.out.2.1)
 have r1 : ((z1 : Int) != (z2 : Int)) = true := by simp; omega
 have hg0 := Hg.out
 rw [if_pos hz] at hg0
 have Hg2 := Qh hg0
 clear hg0 Hg hz R37 Hr Hbody S7
 go_enter Tryz.func167, Tryz.ntmps167
 go_wp2_with fail
 refine RD.out.mono ?_
 rintro e w1 ⟨rfl, rfl⟩
 clear RD H
 go_wp2_with fail
 rw [← HW.out]
 refine wp_region_held_drew (S := fun w' => Below W.heap.size W w') (by kernel_rfl) (Below.drew Qb) (fun hHeld => ?_)
 refine qi 0 (by assumption) ?_
 iterate 6 (refine qk rfl (by kernel_rfl) (fun _ _ _ h => h) (by intro w hSw; (try dsimp only at hSw); go_simp; all_goals with_reducible rfl) (by (try simp only [Act.put, lz]); rfl) ?_)
 refine qo ?_
 refine take_first (i := 6) rfl (by kernel_rfl) (by kernel_rfl) (by kernel_rfl) (fun _ _ _ h => h) (GivesIf.call (by rfl) (fun w => ?_) (fun w hS => RM.out w hS)) (by assumption) ?_
 · go_simp
   all_goals with_reducible rfl
 try simp only [Act.put, lz]
 refine qi 7 (by assumption) ?_
 iterate 4 (refine qk rfl (by kernel_rfl) (fun _ _ _ h => h) (by intro w hSw; (try dsimp only at hSw); go_simp; all_goals with_reducible rfl) (by (try simp only [Act.put, lz]); rfl) ?_)
 refine qo ?_
 refine take_first (i := 11) rfl (by kernel_rfl) (by kernel_rfl) (by kernel_rfl) (fun _ _ _ h => h) (GivesIf.call (by rfl) (fun w => ?_) (fun w hS => RO.out w hS)) (by assumption) ?_
 · go_simp
   all_goals with_reducible rfl
 try simp only [Act.put, lz]
 refine qi 12 (by assumption) ?_
 iterate 2 (refine qk rfl (by kernel_rfl) (fun _ _ _ h => h) (by intro w hSw; (try dsimp only at hSw); go_simp; all_goals with_reducible rfl) (by (try simp only [Act.put, lz]); rfl) ?_)
 refine qo ?_
 refine wpAnyH_done (by kernel_rfl) ?_ _
 clear RM RO hml hwz hHeld
 go_wp2_with (first
  | (refine wpList_store_mid (by rfl) 69 (.tmp 2) (.tmp 38) (by rfl) w.heap.size 0 #[.int .i64 0, .int .i64 0, .slice none 0 0] (by rfl) (by rfl) (there_of_block (w := W.drew) HbW.out.2 (by simp)) (by kernel_rfl) zero_cells ?_))
 have hw := heap_setCells_whole (w := W.drew) (cs := [Value.int .i64 0, .int .i64 0, .slice none 0 0]) [Value.int .i64 0, .int .i64 0, .slice none 0 0] rfl HbW.out.2
 refine bodyPost_ret (results_row_tmp2 rfl _ _ w.heap.size _ _ _ _ rfl hw Tryz.underlying69 (by rfl) (by kernel_rfl)) (by rfl) ?_
 rw [Hg2.out]
 exact getPost_zero rfl (below_setCells' _ Qn _ _ (Below.drew HbW.out.1))
end
section
open Go.RowKit
open Crc Frm
theorem rscan_anyB (a : Option Addr) (len cap : Nat) (bs : List Nat) (first : Int) (w : World) (hs : Sl w w.heap.size a len cap bs) (hlen : len ≤ 1100000) :
 Calls Tryz.prog 108 #[.slice a len cap, .int .i64 first] w fun e w' => ∃ v ts, e = .returned (.tuple #[v, .int .i64 (((scan bs first).2 : Nat) : Int)]) ∧ OwnF w' w.heap.size v ts ∧ ts.map (·.1) = (scan bs first).1 ∧ Below w.heap.size w w' ∧ BB w.heap.size ts := by
 have hle := hs.le
 have hmx := hs.max
 unfold maxLen at hmx
 have hbl := hs.length
 go_enter Tryz.func108, Tryz.ntmps108
 go_wp2_with fail
 go_loopw [6, 7, 8] (fun u at' wn wx => ∃ (k : Nat) (au : Option Addr) (cu : Nat) (ts : List FC), k ≤ len ∧ at' = .int .i64 (k : Int) ∧ u = .slice au ts.length cu ∧ wn = .int .i64 (first + (ts.length : Int)) ∧ OwnF wx w.heap.size (.slice au ts.length cu) ts ∧ Scanned bs first k ts ∧ Below w.heap.size w wx ∧ BB w.heap.size ts) (fun _ i _ _ => len - (intOf i).toNat)
 case atStart => exact ⟨0, none, 0, [], by omega, rfl, rfl, by simp, OwnF.nil_ _ _, Scanned.start _ _, Below.refl _ _, fun t ht => by cases ht⟩
 case round =>
  obtain ⟨k, au, cu, ts, hk, rfl, rfl, rfl, ho, hsc, hB, hBB⟩ := hrel
  have HBB := Qh hBB
  clear hBB
  have HWR := Qh hB.size
  have hs1 := ((hs.below hB Qn).more hB.size).from_ hk
  have c1 : ∀ w, (Instr.slice 38 (.slice a len cap) (some (.int .i64 (k : Int))) none none).run Tryz.prog w = .ok (.slice (fromA a cap k) (len - k) (cap - k)) w :=
   run_cut_from (P := Tryz.prog) 38 5 Tryz.underlying38 info_u8 a len cap k hk
  generalize fromA a cap k = a2 at c1 hs1
  generalize hl2 : len - k = l2 at c1 hs1
  generalize cap - k = k2 at c1 hs1
  have G := Qh (rget_any a2 l2 k2 _ wr hs1)
  have Hsc := Qh hsc
  have hst := fun h0 h1 => Qh (hsc.step h0 h1)
  have hsp := fun hno => Qh (hsc.stop hno)
  have htl := hsc.le
  have hge : ∀ h0 : (get (bs.drop k)).2.2 = 0, (11 ≤ (get (bs.drop k)).2.1 ∧ (get (bs.drop k)).2.1 ≤ l2) ∧ 0 ≤ (get (bs.drop k)).1.seq ∧ (get (bs.drop k)).1.seq ≤ 1073741824 := fun h0 => by
   obtain ⟨hr, hg, hl, _, _⟩ := get_ok _ h0
   rw [hg]
   rw [List.length_drop] at hl
   simp only
   exact ⟨by omega, hr.2.2.1, hr.2.2.2.1⟩
  have Ho := Qh (Qa ho hB)
  clear hsc hs1 ho hB
  obtain ⟨want, hwant⟩ : ∃ x, x = first + (ts.length : Int) := ⟨_, rfl⟩
  rw [← hwant] at hst hsp ⊢
  have Hwant := Qh hwant
  clear hwant
  go_wp2_with fail
  refine G.out.mono ?_
  rintro e w2 ⟨ba, bc, rfl, hsb, hb2, hbb⟩
  obtain ⟨ho, hB⟩ := Ho.out
  have ho2 := ho.below hb2
  have hB2 := hB.trans (hb2.mono hB.size)
  have hbn : ∀ q, (Value.slice au ts.length cu).ownBlock = some q → q < wr.heap.size := fun q hq => (ho.at_base hq).2
  have hsz := hb2.size
  have H2 := Qh (Qa ho2 (Qa hB2 (Qa hsb hbb)))
  generalize hgt : get (bs.drop k) = G3 at *
  obtain ⟨f, n, er⟩ := G3
  simp only at *
  clear ho2 hB2 hsb hbb hb2 ho hB G Ho
  by_cases h0 : er = 0
  · by_cases h1 : f.seq = want
    · have Hst := Qh ((hst h0 h1).out ba bc)
      obtain ⟨⟨hn11, hnl⟩, hq0, hq1⟩ := hge h0
      clear hst hsp hge
      subst h0
      have r1 : (f.seq != want) = false := by simp; omega
      have hw1 : IntKind.i64.wrap (f.seq + 1) = f.seq + 1 := by rw [IntKind.wrap_i64]; omega
      have H1 := Qh h1
      clear h1
      have hbn2 : 0 < f.body.length → ∀ b o, ba = some ⟨b, o, none⟩ → some b ≠ (Value.slice au ts.length cu).ownBlock := fun _ b o e h => by
       have h1 := H2.out.2.2.2 b o e
       have h2 := hbn b h.symm
       omega
      have hoa : ∀ o1 o2, OwnF ((w2.alloc o1).alloc o2) w.heap.size (.slice au ts.length cu) ts := fun o1 o2 => H2.out.1.below ((Qb.alloc Qn _).alloc (by simp) _)
      have hsa : ∀ o1 o2, Sl ((w2.alloc o1).alloc o2) ((w2.alloc o1).alloc o2).heap.size ba f.body.length bc f.body := fun o1 o2 => (H2.out.2.2.1.below ((Qb.alloc Qn _).alloc (by simp) _) Qn).more (by simp; omega)
      have Hoa := Qh (Qa hoa hsa)
      have hwl : w.heap.size ≤ w2.heap.size := H2.out.2.1.size
      have hx0 : ∀ o, ((w2.alloc (.cells #[.int .i64 f.ty, .int .i64 f.seq, .slice ba f.body.length bc] 69)).alloc o).cell? ⟨w2.heap.size, 1, none⟩ = some (.int .i64 f.seq) := fun o => (World.cell?_alloc_past _ _ _ (by simp)).trans ((cell_of_row _ _ 1 _ _ _ (heap_alloc_new w2 _)).trans rfl)
      have hgc : ∀ w3 : World, ((w2.alloc (.cells #[.int .i64 f.ty, .int .i64 f.seq, .slice ba f.body.length bc] 69)).alloc (.cells #[.int .i64 f.ty, .int .i64 f.seq, .slice ba f.body.length bc] 69)).grownBy w3 (Value.slice au ts.length cu).ownBlock → w3.cell? ⟨w2.heap.size, 1, none⟩ = some (.int .i64 f.seq) := fun w3 hg3 => hg3.cell (hx0 _) (by intro h; have := hbn _ h.symm; simp at this; omega)
      have HGC := Qh hgc
      clear hoa hsa hx0 hgc
      go_wp2_with (at_builtin; refine wpList_append_fr rfl (.tmp 31) (.tmp 33) rfl w.heap.size (.slice au ts.length cu) ts rfl (w2.heap.size + 1) (f, ba, bc) (by first | rfl | simp) (Hoa.out.1 _ _) (heap_alloc2_new _ _ _) (Hoa.out.2 _ _) hbn2 (by omega) (by simp; omega) ?_; intro v3 w3 ho3 hg3 hat3; have hx3 := HGC.out w3 hg3)
      have hB3 : Below w.heap.size w w3 := ((H2.out.2.1.alloc hwl _).alloc (by simp; omega) _).grown hg3 (by simp; omega) (fun q hq => (H2.out.1.at_base hq).1)
      obtain ⟨a3, c3, hv3, _⟩ := ho3.frs
      subst hv3
      have H3 := Qh (Qa ho3 hB3)
      clear ho3 hg3 hat3 hB3
      try go_wp2
      have hl4 : f.seq + 1 = first + (((ts ++ [((f, ba, bc) : FC)]).length : Nat) : Int) := by
       have h1 := H1.out
       have h2 := Hwant.out
       rw [List.length_append]; simp; omega
      exact ⟨⟨k + n, a3, c3, _, by omega, by go_num, rfl, by rw [hl4], H3.out.1, Hst.out, H3.out.2, fun t ht b o e => by
       rcases List.mem_append.1 ht with ht | ht
       · exact HBB.out t ht b o e
       have ht2 : t = (f, ba, bc) := by simpa using ht
       subst ht2
       exact Nat.le_trans HWR.out (H2.out.2.2.2 b o e)⟩, by simp [intOf]; omega⟩
    have Hsp := hsp (by rintro ⟨_, h⟩; exact h1 h)
    clear hst hsp hge
    subst h0
    have r1 : (f.seq != want) = true := by simp; omega
    go_wp2
    go_ret2
    exact ⟨_, ts, ret_tup2 rfl (num_i64 Hsp.out.2), H2.out.1.below (Qb.alloc Qn _), Hsp.out.1, H2.out.2.1.alloc H2.out.2.1.size _, HBB.out⟩
  have Hsp := hsp (by rintro ⟨h, _⟩; exact h0 h)
  clear hst hsp hge
  have r0 : ((er : Int) != 0) = true := by simp; omega
  go_wp2
  go_ret2
  exact ⟨_, ts, ret_tup2 rfl (num_i64 Hsp.out.2), H2.out.1.below (Qb.alloc Qn _), Hsp.out.1, H2.out.2.1.alloc H2.out.2.1.size _, HBB.out⟩
end
section
open Go.RowKit Go.Shelf
open Crc Frm
def RdPostB (r : Nat × List Fr × Nat × Nat) (w : World) (e : Ending) (w' : World) : Prop :=
 ∃ v ts, e = .returned (.tuple #[.int .i64 ((r.1 : Nat) : Int), v, .int .i64 ((r.2.2.1 : Nat) : Int), .int .i64 ((r.2.2.2 : Nat) : Int)]) ∧ OwnF w' w.heap.size v ts ∧ ts.map (·.1) = r.2.1 ∧ Below w.heap.size w w' ∧ BB w.heap.size ts
theorem RdPostB.no (er : Nat) {w w' : World} (hb : Below w.heap.size w w') : RdPostB (0, [], 0, er) w (.returned (.tuple #[.int .i64 0, .slice none 0 0, .int .i64 0, .int .i64 (er : Int)])) w' :=
 ⟨_, [], rfl, OwnF.nil_ _ _, rfl, hb, fun t ht => by cases ht⟩
theorem rsegRead_anyB (a : Option Addr) (len cap : Nat) (bs : List Nat) (w : World) (hs : Sl w w.heap.size a len cap bs) (hlen : len ≤ 1100000) :
 Calls Tryz.prog 57 #[.slice a len cap] w fun e w' => RdPostB (rd bs) w e w' := by
 have hbl := hs.length
 have hle := hs.le
 have hmx := hs.max
 unfold maxLen at hmx
 by_cases h12 : len < 12
 · have hr : rd bs = (0, [], 0, 13) := by unfold rd rh; rw [if_pos (show bs.length < 12 by omega)]; rfl
   rw [hr]
   clear hr
   have h12' : (len : Int) < 12 := by omega
   go_enter Tryz.func57, Tryz.ntmps57
   go_wp2
   refine bodyPost_ret (v := .tuple #[.int .i64 0, .slice none 0 0, .int .i64 0, .int .i64 13]) (by simp [results, Tryz.results57, go_sem]) (by rfl) ?_
   exact RdPostB.no 13 Qb
 have h12' : (12 : Int) ≤ (len : Int) := by omega
 have s4 := hs.take (k := 4) (by omega)
 have c4 : ∀ w, (Instr.slice 38 (.slice a len cap) none (some (.int .i64 4)) none).run Tryz.prog w = .ok (.slice a 4 cap) w := run_cut_to (P := Tryz.prog) 38 5 Tryz.underlying38 info_u8 a len cap 4 (by omega)
 have cv := run_str (P := Tryz.prog) s4 38 5 9 Tryz.underlying38 Tryz.underlying5 Tryz.underlying9
 have hmg : strOf magic = ⟨#[71, 79, 86, 49]⟩ := by decide +kernel
 by_cases hm : bs.take 4 = magic
 · rw [hm, hmg] at cv
   have s8 := hs.take (k := 8) (by omega)
   have c8 : ∀ w, (Instr.slice 38 (.slice a len cap) none (some (.int .i64 8)) none).run Tryz.prog w = .ok (.slice a 8 cap) w := run_cut_to (P := Tryz.prog) 38 5 Tryz.underlying38 info_u8 a len cap 8 (by omega)
   have m8 := hs.mid (j := 8) (k := 12) (by omega) (by omega)
   rw [List.drop_take] at m8
   have d8 : ∀ w, (Instr.slice 38 (.slice a len cap) (some (.int .i64 8)) (some (.int .i64 12)) none).run Tryz.prog w = .ok (.slice (fromA a cap 8) 4 (cap - 8)) w := run_cut_mid (P := Tryz.prog) 38 5 Tryz.underlying38 info_u8 a len cap 8 12 (by omega) (by omega)
   have m4 := hs.mid (j := 4) (k := 8) (by omega) (by omega)
   rw [List.drop_take] at m4
   have d4 : ∀ w, (Instr.slice 38 (.slice a len cap) (some (.int .i64 4)) (some (.int .i64 8)) none).run Tryz.prog w = .ok (.slice (fromA a cap 4) 4 (cap - 4)) w := run_cut_mid (P := Tryz.prog) 38 5 Tryz.underlying38 info_u8 a len cap 4 8 (by omega) (by omega)
   have f12 := hs.from_ (k := 12) (by omega)
   have d12 : ∀ w, (Instr.slice 38 (.slice a len cap) (some (.int .i64 12)) none none).run Tryz.prog w = .ok (.slice (fromA a cap 12) (len - 12) (cap - 12)) w := run_cut_from (P := Tryz.prog) 38 5 Tryz.underlying38 info_u8 a len cap 12 (by omega)
   generalize fromA a cap 8 = a8 at m8 d8
   generalize cap - 8 = k8 at m8 d8
   generalize fromA a cap 4 = a4 at m4 d4
   generalize cap - 4 = k4 at m4 d4
   generalize fromA a cap 12 = a2 at f12 d12
   generalize cap - 12 = k2 at f12 d12
   generalize hl2 : len - 12 = l2 at f12 d12
   have RM := Qh (fun (w' : World) (hb : Below w.heap.size w w') => rread_any a8 4 k8 _ w' ((m8.below hb Qn).more hb.size) (by decide))
   have RO := Qh (fun (w' : World) (hb : Below w.heap.size w w') => rof_any a 8 cap _ w' ((s8.below hb Qn).more hb.size))
   have R4 := Qh (fun (w' : World) (hb : Below w.heap.size w w') => rread_any a4 4 k4 _ w' ((m4.below hb Qn).more hb.size) (by decide))
   have hv8 := val4_lt hs.byte 8
   have hv4 := val4_lt hs.byte 4
   have hzs := more_lt 0 (bs.take 8)
   have Hr : Hid (rh bs = if val ((bs.drop 8).take 4) ≠ more 0 (bs.take 8) then (0, 14) else if 1073741824 < val ((bs.drop 4).take 4) then (0, 12) else (val ((bs.drop 4).take 4), 0)) := by
    show _ = _; unfold rh; rw [if_neg (by omega), if_neg (by rw [hm]; exact fun h => h rfl)]
   have Hrd : Hid (rd bs = if (rh bs).2 ≠ 0 then (0, [], 0, (rh bs).2) else ((rh bs).1, (scan (bs.drop 12) ((rh bs).1 : Int)).1, 12 + (scan (bs.drop 12) ((rh bs).1 : Int)).2, 0)) := rfl
   have SC := Qh (fun (first : Int) (w' : World) (hb : Below w.heap.size w w') => rscan_anyB a2 l2 k2 (bs.drop 12) first w' ((f12.below hb Qn).more hb.size) (by omega))
   have hsl : Hid (∀ first : Int, (scan (bs.drop 12) first).2 ≤ 1100000) := fun first => by
    have := scan_le (bs.length + 1) (bs.drop 12) first (by rw [List.length_drop]; omega)
    rw [List.length_drop] at this
    omega
   generalize rd bs = r at Hrd ⊢
   generalize rh bs = r0 at Hr Hrd
   simp only [show 12 - 8 = 4 from rfl, show 8 - 4 = 4 from rfl] at RM R4
   generalize val ((bs.drop 8).take 4) = z8 at RM Hr hv8
   generalize val ((bs.drop 4).take 4) = z4 at R4 Hr hv4
   generalize more 0 (bs.take 8) = zs at RO Hr hzs
   clear f12 m8 m4 s8 s4 hs hm hmg hl2
   have hwz : IntKind.i64.wrap (z4 : Int) = (z4 : Int) := by rw [IntKind.wrap_i64]; omega
   have hwzs : IntKind.u64.wrap (zs : Int) = (zs : Int) := by rw [IntKind.wrap_u64]; omega
   by_cases h8 : z8 = zs
   · subst h8
     by_cases h30 : z4 ≤ 1073741824
     · have hr0 := Hr.out
       rw [if_neg (by simp), if_neg (by omega)] at hr0
       have hr := Hrd.out
       rw [hr0, if_neg (by simp)] at hr
       rw [hr]
       clear hr hr0 Hr Hrd
       have h30' : (z4 : Int) ≤ 1073741824 := by omega
       have hsl := hsl.out (z4 : Int)
       have SC := Qh (SC.out (z4 : Int))
       generalize scan (bs.drop 12) (z4 : Int) = sc at SC hsl
       obtain ⟨fs, n⟩ := sc
       simp only at SC hsl ⊢
       have hwn : IntKind.i64.wrap (12 + (n : Int)) = 12 + (n : Int) := by rw [IntKind.wrap_i64]; omega
       go_enter Tryz.func57, Tryz.ntmps57
       go_wp2_with fail
       refine wp_region_held_drew (S := fun w' => Below w.heap.size w w') (by kernel_rfl) (Below.drew Qb) (fun hHeld => ?_)
       refine qi 0 (by assumption) ?_
       iterate 2 (refine qk rfl (by kernel_rfl) (fun _ _ _ h => h) (by intro w hSw; (try dsimp only at hSw); go_simp; all_goals with_reducible rfl) (by (try simp only [Act.put, lz]); rfl) ?_)
       refine qo ?_
       refine take_first (i := 2) rfl (by kernel_rfl) (by kernel_rfl) (by kernel_rfl) (fun _ _ _ h => h) (GivesIf.call (by rfl) (fun w => ?_) (fun w hS => RM.out w hS)) (by assumption) ?_
       · go_simp
         all_goals with_reducible rfl
       try simp only [Act.put, lz]
       refine qi 3 (by assumption) ?_
       iterate 2 (refine qk rfl (by kernel_rfl) (fun _ _ _ h => h) (by intro w hSw; (try dsimp only at hSw); go_simp; all_goals with_reducible rfl) (by (try simp only [Act.put, lz]); rfl) ?_)
       refine qo ?_
       refine take_first (i := 5) rfl (by kernel_rfl) (by kernel_rfl) (by kernel_rfl) (fun _ _ _ h => h) (GivesIf.call (by rfl) (fun w => ?_) (fun w hS => RO.out w hS)) (by assumption) ?_
       · go_simp
         all_goals with_reducible rfl
       try simp only [Act.put, lz]
       refine qi 6 (by assumption) ?_
       iterate 2 (refine qk rfl (by kernel_rfl) (fun _ _ _ h => h) (by intro w hSw; (try dsimp only at hSw); go_simp; all_goals with_reducible rfl) (by (try simp only [Act.put, lz]); rfl) ?_)
       refine qo ?_
       refine wpAnyH_done (by kernel_rfl) ?_ _
       clear hHeld RM RO
       have hB1 : Below w.heap.size w w.drew := Below.drew Qb
       go_wp2_with (first
        | (go_at_call 106; refine (R4.out _ hB1).mono ?_; rintro e w1 ⟨rfl, rfl⟩)
        | (go_at_call 108; refine (SC.out _ hB1).mono ?_; rintro e w2 ⟨v, ts, rfl, ho, hts, hb2, hbb⟩; have H := Qh (Qa (ho.mono hB1.size) (Qa hts (Qa (hB1.trans (hb2.mono hB1.size)) (fun t ht b o e => Nat.le_trans hB1.size (hbb t ht b o e) : BB w.heap.size ts)))); clear ho hts hb2 hbb))
       refine bodyPost_ret (v := .tuple #[.int .i64 (z4 : Int), v, .int .i64 (12 + (n : Int)), .int .i64 0]) (by simp [results, Tryz.results57, go_sem]) (by rfl) ?_
       exact ⟨v, ts, rfl, H.out.1, H.out.2.1, H.out.2.2.1, H.out.2.2.2⟩
     have hr0 := Hr.out
     rw [if_neg (by simp), if_pos (by omega)] at hr0
     have hr := Hrd.out
     rw [hr0, if_pos (by simp)] at hr
     rw [hr]
     clear hr hr0 Hr Hrd SC hsl
     have h30' : (1073741824 : Int) < (z4 : Int) := by omega
     go_enter Tryz.func57, Tryz.ntmps57
     go_wp2_with fail
     refine wp_region_held_drew (S := fun w' => Below w.heap.size w w') (by kernel_rfl) (Below.drew Qb) (fun hHeld => ?_)
     refine qi 0 (by assumption) ?_
     iterate 2 (refine qk rfl (by kernel_rfl) (fun _ _ _ h => h) (by intro w hSw; (try dsimp only at hSw); go_simp; all_goals with_reducible rfl) (by (try simp only [Act.put, lz]); rfl) ?_)
     refine qo ?_
     refine take_first (i := 2) rfl (by kernel_rfl) (by kernel_rfl) (by kernel_rfl) (fun _ _ _ h => h) (GivesIf.call (by rfl) (fun w => ?_) (fun w hS => RM.out w hS)) (by assumption) ?_
     · go_simp
       all_goals with_reducible rfl
     try simp only [Act.put, lz]
     refine qi 3 (by assumption) ?_
     iterate 2 (refine qk rfl (by kernel_rfl) (fun _ _ _ h => h) (by intro w hSw; (try dsimp only at hSw); go_simp; all_goals with_reducible rfl) (by (try simp only [Act.put, lz]); rfl) ?_)
     refine qo ?_
     refine take_first (i := 5) rfl (by kernel_rfl) (by kernel_rfl) (by kernel_rfl) (fun _ _ _ h => h) (GivesIf.call (by rfl) (fun w => ?_) (fun w hS => RO.out w hS)) (by assumption) ?_
     · go_simp
       all_goals with_reducible rfl
     try simp only [Act.put, lz]
     refine qi 6 (by assumption) ?_
     iterate 2 (refine qk rfl (by kernel_rfl) (fun _ _ _ h => h) (by intro w hSw; (try dsimp only at hSw); go_simp; all_goals with_reducible rfl) (by (try simp only [Act.put, lz]); rfl) ?_)
     refine qo ?_
     refine wpAnyH_done (by kernel_rfl) ?_ _
     clear hHeld RM RO
     have hB1 : Below w.heap.size w w.drew := Below.drew Qb
     go_wp2_with (go_at_call 106; refine (R4.out _ hB1).mono ?_; rintro e w1 ⟨rfl, rfl⟩)
     refine bodyPost_ret (v := .tuple #[.int .i64 0, .slice none 0 0, .int .i64 0, .int .i64 12]) (by simp [results, Tryz.results57, go_sem]) (by rfl) ?_
     exact RdPostB.no 12 hB1
   have hr0 := Hr.out
   rw [if_pos h8] at hr0
   have hr := Hrd.out
   rw [hr0, if_pos (by simp)] at hr
   rw [hr]
   clear hr hr0 Hr Hrd SC hsl
   have h8' : ((z8 : Int) != (zs : Int)) = true := by simp; omega
   go_enter Tryz.func57, Tryz.ntmps57
   go_wp2_with fail
   refine wp_region_held_drew (S := fun w' => Below w.heap.size w w') (by kernel_rfl) (Below.drew Qb) (fun hHeld => ?_)
   refine qi 0 (by assumption) ?_
   iterate 2 (refine qk rfl (by kernel_rfl) (fun _ _ _ h => h) (by intro w hSw; (try dsimp only at hSw); go_simp; all_goals with_reducible rfl) (by (try simp only [Act.put, lz]); rfl) ?_)
   refine qo ?_
   refine take_first (i := 2) rfl (by kernel_rfl) (by kernel_rfl) (by kernel_rfl) (fun _ _ _ h => h) (GivesIf.call (by rfl) (fun w => ?_) (fun w hS => RM.out w hS)) (by assumption) ?_
   · go_simp
     all_goals with_reducible rfl
   try simp only [Act.put, lz]
   refine qi 3 (by assumption) ?_
   iterate 2 (refine qk rfl (by kernel_rfl) (fun _ _ _ h => h) (by intro w hSw; (try dsimp only at hSw); go_simp; all_goals with_reducible rfl) (by (try simp only [Act.put, lz]); rfl) ?_)
   refine qo ?_
   refine take_first (i := 5) rfl (by kernel_rfl) (by kernel_rfl) (by kernel_rfl) (fun _ _ _ h => h) (GivesIf.call (by rfl) (fun w => ?_) (fun w hS => RO.out w hS)) (by assumption) ?_
   · go_simp
     all_goals with_reducible rfl
   try simp only [Act.put, lz]
   refine qi 6 (by assumption) ?_
   iterate 2 (refine qk rfl (by kernel_rfl) (fun _ _ _ h => h) (by intro w hSw; (try dsimp only at hSw); go_simp; all_goals with_reducible rfl) (by (try simp only [Act.put, lz]); rfl) ?_)
   refine qo ?_
   refine wpAnyH_done (by kernel_rfl) ?_ _
   clear hHeld RM RO R4
   have hB1 : Below w.heap.size w w.drew := Below.drew Qb
   go_wp2
   refine bodyPost_ret (v := .tuple #[.int .i64 0, .slice none 0 0, .int .i64 0, .int .i64 14]) (by simp [results, Tryz.results57, go_sem]) (by rfl) ?_
   exact RdPostB.no 14 hB1
 have hr : rd bs = (0, [], 0, 12) := by unfold rd rh; rw [if_neg (show ¬ bs.length < 12 by omega), if_pos hm]; rfl
 rw [hr]
 clear hr
 have hne : strOf (bs.take 4) ≠ ⟨#[71, 79, 86, 49]⟩ := fun h => hm (by
  rw [← hmg] at h
  exact (strOf_eq s4.byte (by decide)).1 h)
 have hnt := ne_toList hne
 rw [show (⟨#[71, 79, 86, 49]⟩ : ByteArray).toList = [71, 79, 86, 49] from by rw [ByteArray.toList_eq]] at hnt
 generalize strOf (bs.take 4) = s at cv hnt
 clear hne hm hmg s4
 go_enter Tryz.func57, Tryz.ntmps57
 go_wp2
 refine bodyPost_ret (v := .tuple #[.int .i64 0, .slice none 0 0, .int .i64 0, .int .i64 12]) (by simp [results, Tryz.results57, go_sem]) (by rfl) ?_
 exact RdPostB.no 12 Qb
end
section
open Go.RowKit Go.Sort Go.Maps
open Crc Frm
open Sgn
attribute [local go_sem] Oper.semAt_some
def TornIs (r : Option (List Nat)) (bs : List Nat) (n : Nat) : Prop := match r with
 | none => bs.length ≤ n
 | some b => n < bs.length ∧ b = bs.take n
def badAt (t : St) (g : Lg) (x : Int) : Prop := (rd (t.bytes (nm x))).2.2.2 ≠ 0 ∨ ((rd (t.bytes (nm x))).1 : Int) ≠ x ∨ ¬ (g.segs = [] ∨ x = g.next)
theorem find_bad {t : St} {g : Lg} {x : Int} (l : List Int) (h : badAt t g x) : lgFind t (x :: l) g = (g, none) := by
 unfold lgFind
 unfold badAt at h
 simp only
 rw [if_pos h]
theorem find_torn {t : St} {g : Lg} {x : Int} (l : List Int) (h : ¬ badAt t g x) (ht : (rd (t.bytes (nm x))).2.2.1 < (t.bytes (nm x)).length) :
 lgFind t (x :: l) g = (⟨g.segs ++ [x], x + ((rd (t.bytes (nm x))).2.1.length : Int)⟩, some ((t.bytes (nm x)).take (rd (t.bytes (nm x))).2.2.1)) := by
 conv => lhs; unfold lgFind
 unfold badAt at h
 simp only
 rw [if_neg h, if_pos ht]
theorem find_on {t : St} {g : Lg} {x : Int} (l : List Int) (h : ¬ badAt t g x) (ht : ¬ (rd (t.bytes (nm x))).2.2.1 < (t.bytes (nm x)).length) :
 lgFind t (x :: l) g = lgFind t l ⟨g.segs ++ [x], x + ((rd (t.bytes (nm x))).2.1.length : Int)⟩ := by
 conv => lhs; unfold lgFind
 unfold badAt at h
 simp only
 rw [if_neg h, if_neg ht]
theorem rd_nil : (rd []).2.2.2 ≠ 0 := by decide
theorem RdPostB.out {f : Nat} {fs : List Fr} {gm er : Nat} {w w' : World} {e : Ending} (h : RdPostB (f, fs, gm, er) w e w') :
 ∃ v ts, e = .returned (.tuple #[.int .i64 ((f : Nat) : Int), v, .int .i64 ((gm : Nat) : Int), .int .i64 ((er : Nat) : Int)]) ∧ OwnF w' w.heap.size v ts ∧ ts.map (·.1) = fs ∧ Below w.heap.size w w' ∧ BB w.heap.size ts := h
structure RlGd (wl wx : World) (t : St) (l : List Int) (k : Nat) (oa : Option Addr) (oc : Nat) (ba : Option Addr) (bc : Nat) (segs : List Int) (bs : List Nat) (n : Nat) (next : Int) : Prop where
 own : OwnV wx wl.heap.size 2 (.slice oa segs.length oc) (i64V segs)
 sl : Sl wx wx.heap.size ba bs.length bc bs
 ne : ∀ b o, ba = some ⟨b, o, none⟩ → wl.heap.size ≤ b ∧ b < wx.heap.size ∧ some b ≠ (Value.slice oa segs.length oc).ownBlock
 bel : Below wl.heap.size wl wx
 len : segs.length = k
 few : bs.length ≤ 1100000
 rel : (bs.length ≤ n ∧ n ≤ 1100000 ∧ lgFind t l ⟨[], 0⟩ = lgFind t (l.drop k) ⟨segs, next⟩) ∨ (0 < k ∧ n < bs.length ∧ lgFind t l ⟨[], 0⟩ = (⟨segs, next⟩, some (bs.take n)))
def GoodL (w : World) (r : Lg × Option (List Nat)) (e : Ending) (w' : World) : Prop :=
 ∃ oa oc ba bc bs n, e = .returned (.tuple #[.slice oa r.1.segs.length oc, .slice ba (List.length bs) bc, .int .i64 ((n : Nat) : Int), .int .i64 r.1.next]) ∧ OwnV w' w.heap.size 2 (.slice oa r.1.segs.length oc) (i64V r.1.segs) ∧
  Sl w' w'.heap.size ba bs.length bc bs ∧ (∀ b o, ba = some ⟨b, o, none⟩ → w.heap.size ≤ b ∧ some b ≠ (Value.slice oa r.1.segs.length oc).ownBlock) ∧ Below w.heap.size w w' ∧ bs.length ≤ 1100000 ∧ n ≤ 1100000 ∧ TornIs r.2 bs n
theorem RlGd.bad {w wl wx : World} {t : St} {l : List Int} {k : Nat} {oa : Option Addr} {oc : Nat} {ba : Option Addr} {bc : Nat} {segs : List Int} {bs : List Nat} {n : Nat} {next : Int} (h : RlGd wl wx t l k oa oc ba bc segs bs n next) (hb : Below w.heap.size w wl)
 (hr : bs.length ≤ n → lgFind t (l.drop k) ⟨segs, next⟩ = (⟨segs, next⟩, none)) {wy : World} (hy : Below wx.heap.size wx wy) :
 GoodL w (lgFind t l ⟨[], 0⟩) (.returned (.tuple #[.slice oa segs.length oc, .slice ba (List.length bs) bc, .int .i64 ((n : Nat) : Int), .int .i64 next])) wy := by
 have hs := (h.sl.below hy Qn).more hy.size
 have ho := OwnV.below_ h.own hy
 have hB : Below w.heap.size w wy := hb.trans ((h.bel.trans (hy.mono h.bel.size)).mono hb.size)
 rcases h.rel with ⟨h1, h3, h2⟩ | ⟨_, h1, h2⟩
 · have e := h2.trans (hr h1)
   rw [e]
   exact ⟨oa, oc, ba, bc, bs, n, rfl, OwnV.mono ho hb.size, hs, fun b o e => ⟨Nat.le_trans hb.size (h.ne b o e).1, (h.ne b o e).2.2⟩, hB, h.few, h3, h1⟩
 rw [h2]
 exact ⟨oa, oc, ba, bc, bs, n, rfl, OwnV.mono ho hb.size, hs, fun b o e => ⟨Nat.le_trans hb.size (h.ne b o e).1, (h.ne b o e).2.2⟩, hB, h.few, by have := h.few; omega, h1, rfl⟩
theorem far_append {w3 w6 : World} {B B1 : Nat} {o : Obj} {v v6 : Value} {us : List Value} {e : TypeId} {xa : Option Addr} {n c : Nat} {bs : List Nat} (ho : OwnV w3 B e v us) (hg : (w3.alloc o).grownBy w6 v.ownBlock) (hat : v6.ownBlock = v.ownBlock ∨ v6.ownBlock = some (w3.alloc o).heap.size)
 (hs : Sl w3 w3.heap.size xa n c bs) (hx : ∀ b q, xa = some ⟨b, q, none⟩ → B1 ≤ b ∧ b < w3.heap.size) (hB : B ≤ B1) (hv : ∀ q, v.ownBlock = some q → q < B1) :
 Sl w6 w6.heap.size xa n c bs ∧ ∀ b q, xa = some ⟨b, q, none⟩ → B ≤ b ∧ b < w6.heap.size ∧ some b ≠ v6.ownBlock := by
 have hz := hg.size
 have hz2 : (w3.alloc o).heap.size = w3.heap.size + 1 := by simp
 have h1 : Sl (w3.alloc o) (w3.alloc o).heap.size xa n c bs := (hs.below ((Below.refl w3.heap.size w3).alloc Qn o) Qn).more (by omega)
 refine ⟨(h1.kept hg (fun _ b q e h => ?_)).more hz, fun b q e => ⟨by have := (hx b q e).1; omega, by have := (hx b q e).2; omega, fun h => ?_⟩⟩
 · have h2 := hv b h.symm
   have := (hx b q e).1
   omega
 rcases hat with h3 | h3
 · rw [h3] at h
   have h2 := hv b h.symm
   have := (hx b q e).1
   omega
 rw [h3] at h
 injection h with h
 have := (hx b q e).2
 omega
theorem rlgood_any {w0 w : World} {rp : Nat} {t : St} {O : Nat → Prop} (h : RK w0 w rp t O) :
 Calls Tryz.prog 36 #[.pointer (some ⟨rp, 0, none⟩)] w (GoodL w (lgFind t (mLoad t).1 ⟨[], 0⟩)) := by
 have LD := Qh (rload_any h)
 have H := Qh h
 have hl40 := mLoad_len t
 obtain ⟨l, hl⟩ : ∃ l, l = (mLoad t).1 := ⟨_, rfl⟩
 rw [← hl] at LD hl40 ⊢
 generalize (mLoad t).2 = le at *
 clear h hl
 go_enter Tryz.func36, Tryz.ntmps36
 go_wp2_with fail
 refine LD.out.mono ?_
 rintro e wl ⟨v, rfl, hv, bl⟩
 obtain ⟨la, lc, rfl, hrow, hbase⟩ := OwnV.out_ hv
 have hmx := hrow.max
 have hle := hrow.le
 unfold maxLen at hmx
 have HRW := Qh hrow
 have BL := Qh bl
 obtain ⟨m, hm⟩ : ∃ m, m = l.length := ⟨_, rfl⟩
 rw [← hm] at hle hl40 ⊢
 have HM := Qh hm
 clear hv hrow hbase bl LD hm
 go_wp2_with fail
 go_loopw [6, 7, 8, 9, 12] (fun a b c d i wx => ∃ (k : Nat) (oa : Option Addr) (oc : Nat) (ba : Option Addr) (bc : Nat) (segs : List Int) (bs : List Nat) (n : Nat) (next : Int), k ≤ m ∧ i = .int .i64 (k : Int) ∧ a = .slice oa k oc ∧ b = .slice ba bs.length bc ∧ c = .int .i64 (n : Int) ∧ d = .int .i64 next ∧ RlGd wl wx t l k oa oc ba bc segs bs n next) (fun _ _ _ _ i _ => m - (intOf i).toNat)
 case atStart => exact ⟨0, none, 0, none, 0, [], [], 0, 0, Nat.zero_le _, rfl, rfl, rfl, rfl, rfl, ⟨OwnV.nil_ _ _ _, Sl.nil_, (fun b o e => by cases e), Below.refl _ _, rfl, by simp, .inl ⟨Nat.le_refl _, by omega, rfl⟩⟩⟩
 case round =>
  obtain ⟨k, oa, oc, ba, bc, segs, bs, n, next, hk, rfl, rfl, rfl, rfl, rfl, hq⟩ := hrel
  have Q := Qh hq
  clear hq
  by_cases hlt : k < m
  · have hkl : k < l.length := by have := HM.out; omega
    obtain ⟨b, o, hla, hbl, hc⟩ := HRW.out.at_ (by omega)
    subst hla
    obtain ⟨x, hx⟩ : ∃ x, x = l.getD k 0 := ⟨_, rfl⟩
    have cxl : wl.cell? ⟨b, o + k, none⟩ = some (.int .i64 x) := (hc k (by omega)).trans (by rw [hx])
    have HDR : Hid (l.drop k = x :: l.drop (k + 1)) := by show _ = _; rw [hx, List.getD_eq_getElem?_getD, List.getElem?_eq_getElem hkl]; exact List.drop_eq_getElem_cons hkl
    have HX := Qh (Qa hbl cxl)
    have cx := (Q.out.bel.cell (p := ⟨b, o + k, none⟩) hbl).trans cxl
    have HK := Qh (Qa hlt hkl)
    have hlt' : (k : Int) < (m : Int) := by omega
    have hk0 : (0 : Int) ≤ (k : Int) := by omega
    have BW := Qh (BL.out.trans (Q.out.bel.mono BL.out.size))
    have NM := Qh (rsname_any x wr)
    clear hc hx hbl cxl hkl
    go_wp2_with fail
    refine NM.out.mono ?_
    rintro e w1 ⟨rfl, b1⟩
    have B1 := Qh b1
    have BW1 := Qh (BW.out.trans (b1.mono BW.out.size))
    have RD := (H.out.on BW1.out).read ⟨(nm x).toArray⟩
    change Calls _ _ _ _ (NewBytes w1 (t.bytes (nm x)) (t.has (nm x))) at RD
    have RD := Qh RD
    clear b1 NM cx
    go_wp2_with fail
    refine RD.out.mono ?_
    rintro e w2 ⟨xa, xc, rfl, ob, b2⟩
    obtain ⟨xa', xc', e1, xs, xb⟩ := ob.sl_base (fat_byte H.out.good (nm x))
    injection e1 with e2 e3 e4
    subst e2 e4
    change Sl w2 w2.heap.size xa (t.bytes (nm x)).length xc (t.bytes (nm x)) at xs
    change ∀ b o, xa = some ⟨b, o, none⟩ → w1.heap.size ≤ b at xb
    have hbl := bytes_le H.out.good (nm x)
    have HBAD := Qh (fun (g : Lg) (h : ((t.has (nm x)) = false)) => (.inl (by
     have : t.bytes (nm x) = [] := by unfold St.bytes; unfold St.has at h; cases hf : fat t.D (nm x) with
      | none => rfl
      | some f => rw [hf] at h; cases h
     rw [this]; exact rd_nil) : badAt t g x))
    have SR := Qh (rsegRead_anyB xa (t.bytes (nm x)).length xc (t.bytes (nm x)) w2 xs (by omega))
    have HF0 := Qh (fun (g : Lg) (h : badAt t g x) => find_bad (l.drop (k + 1)) h)
    have HF1 := Qh (fun (g : Lg) (h : ¬ badAt t g x) => find_torn (l.drop (k + 1)) h)
    have HF2 := Qh (fun (g : Lg) (h : ¬ badAt t g x) => find_on (l.drop (k + 1)) h)
    have HBI : Hid (∀ g, badAt t g x = ((rd (t.bytes (nm x))).2.2.2 ≠ 0 ∨ ((rd (t.bytes (nm x))).1 : Int) ≠ x ∨ ¬ (g.segs = [] ∨ x = g.next))) := fun _ => rfl
    have hgl := rd_good_le (t.bytes (nm x))
    have hdl := rd_head_le (t.bytes (nm x))
    have hml := rd_many (t.bytes (nm x))
    generalize badAt t = BAD at *
    generalize t.has (nm x) = is at *
    generalize rd (t.bytes (nm x)) = r4 at *
    generalize t.bytes (nm x) = bx at *
    obtain ⟨f, fs, gm, er⟩ := r4
    simp only [] at HF0 HF1 HF2 HBI SR hgl hdl hml
    have XS := Qh (Qa xs xb)
    have XB : Hid (∀ b o, xa = some ⟨b, o, none⟩ → b < w2.heap.size) := fun b o e => by subst e; exact (ob.at_base rfl).2
    have B2 := Qh (B1.out.trans (b2.mono B1.out.size))
    have HXL := Qh (Qa hbl (Qa hgl (Qa hdl hml)))
    have W1 := Qh B1.out.size
    have OWN : Hid (∀ q, (Value.slice oa k oc).ownBlock = some q → q < wr.heap.size) := fun q hq => by have h9 := Q.out.own; rw [Q.out.len] at h9; exact (h9.at_base hq).2
    clear ob b2 xs xb RD hbl hgl hdl hml B1 BW1
    go_wp2_with fail
    refine SR.out.mono ?_
    rintro e w3 hP
    obtain ⟨v5, ts, rfl, of5, hts, b3, _⟩ := RdPostB.out hP
    obtain ⟨a5, c5, hv5, _⟩ := of5.frs
    subst hv5
    have htl : ts.length = fs.length := by rw [← hts, List.length_map]
    rw [htl]
    have B3 := Qh (B2.out.trans (b3.mono B2.out.size))
    have XS3 := Qh ((XS.out.1.below b3 Qn).more b3.size)
    have cx := ((Q.out.bel.trans (B3.out.mono Q.out.bel.size)).cell (p := ⟨b, o + k, none⟩) HX.out.1).trans HX.out.2
    have XB3 : Hid (∀ b o, xa = some ⟨b, o, none⟩ → b < w3.heap.size) := fun b o e => Nat.lt_of_lt_of_le (XB.out b o e) b3.size
    clear of5 hts b3 htl SR
    cases is
    · go_wp2
      refine bodyPost_ret (v := .tuple #[.slice oa k oc, .slice ba bs.length bc, .int .i64 (n : Int), .int .i64 next]) (by simp [results, Tryz.results36, go_sem]) (by rfl) ?_
      have hz := Q.out.bad BL.out (fun hle => by rw [HDR.out]; exact HF0.out ⟨segs, next⟩ (by rw [HBI.out]; exact HBAD.out ⟨segs, next⟩ (by trivial))) B3.out
      rw [Q.out.len] at hz
      exact hz
    by_cases her : er = 0
    · subst her
      have her : (0 : Nat) = 0 := rfl
      by_cases hfx : (f : Int) = x
      · have hb2 : ((f : Int) != x) = false := by simp [hfx]
        by_cases hk00 : k = 0
        · have hgk : ¬ 0 < k := by omega
          have HK00 := Qh hk00
          clear hk00
          have HNB : Hid (¬ BAD ⟨segs, next⟩ x) := by
           show ¬ _
           rw [HBI.out]
           rintro (h | h | h)
           · exact h her
           · exact h hfx
           exact h (.inl (List.length_eq_zero_iff.1 (by rw [Q.out.len]; exact HK00.out)))
          have HTL : Hid (bs.length ≤ n ∧ lgFind t l ⟨[], 0⟩ = lgFind t (x :: l.drop (k + 1)) ⟨segs, next⟩) := by
           show _ ∧ _
           rcases Q.out.rel with ⟨h1, _, h2⟩ | ⟨h0, h1, _⟩
           · exact ⟨h1, by rw [h2, HDR.out]⟩
           omega
          have ho3 : Hid (OwnV w3 wl.heap.size 2 (.slice oa k oc) (i64V segs)) := by
           have := OwnV.below_ Q.out.own B3.out
           rw [Q.out.len] at this
           exact this
          have hwl : wl.heap.size ≤ w3.heap.size := Nat.le_trans Q.out.bel.size B3.out.size
          have hsg : segs.length ≤ 1000 := by rw [Q.out.len]; omega
          have g1 := HXL.out.1
          have g2 := HXL.out.2.1
          have g3 := HXL.out.2.2.1
          have g4 := HXL.out.2.2.2
          generalize hF : (f : Int) = F at *
          have g3' : 0 ≤ F ∧ F ≤ 1073741824 := by omega
          obtain ⟨g5, g6⟩ := g3'
          have g7 : fs.length ≤ 1100000 := by omega
          have HE := Qh (Qa her hfx)
          clear her hfx hF
          go_wp2_with (first
           | (at_builtin; refine wpList_append_ints rfl (.tmp 84) (.tmp 86) 50 rfl wl.heap.size _ Tryz.underlying50 info_i64m _ segs rfl (ho3.out.alloc _) _ (some ⟨w3.heap.size, 0, none⟩) 1 1 [F] rfl (lit_row w3 [F] (by simp [maxLen])) rfl (fun h => by cases h) (by omega) (by simp; omega) ?_; intro v6 w6 ho6 hg6 hat6; have G6 : Hid (OwnV w6 wl.heap.size 2 v6 (i64V (segs ++ [F])) ∧ (w3.alloc (.cells #[.int .i64 F] 2)).grownBy w6 (Value.slice oa k oc).ownBlock ∧ (v6.ownBlock = (Value.slice oa k oc).ownBlock ∨ v6.ownBlock = some (w3.alloc (.cells #[.int .i64 F] 2)).heap.size)) := ⟨ho6, hg6, hat6⟩; clear ho6 hg6 hat6)
           | fail)
          obtain ⟨ho6, hg6, hat6⟩ := G6.out
          have hB6 : Below wl.heap.size wl w6 := (((Q.out.bel.trans (B3.out.mono Q.out.bel.size)).alloc hwl _)).grown hg6 (by simp; omega) (fun k hk => (ho3.out.at_base hk).1)
          have hx6 : Sl w6 w6.heap.size xa bx.length xc bx ∧ ∀ b o, xa = some ⟨b, o, none⟩ → wl.heap.size ≤ b ∧ b < w6.heap.size ∧ some b ≠ v6.ownBlock := far_append ho3.out hg6 hat6 XS3.out (fun b o e => ⟨XS.out.2 b o e, XB3.out b o e⟩) (Nat.le_trans Q.out.bel.size W1.out) (fun q hq => Nat.lt_of_lt_of_le (OWN.out q hq) W1.out)
          have H6 := Qh (Qa ho6 (Qa hB6 hx6))
          clear ho6 hg6 hat6 hB6 hx6
          obtain ⟨a6, c6, rfl, _, _⟩ := OwnV.out_ H6.out.1
          go_roundw
          case rel =>
           refine ⟨k + 1, a6, c6, xa, xc, segs ++ [F], bx, gm, F + (fs.length : Int), HK.out.1, by go_num, by rw [List.length_append, Q.out.len]; rfl, rfl, rfl, by trivial, ⟨H6.out.1, H6.out.2.2.1, H6.out.2.2.2, H6.out.2.1, by rw [List.length_append, Q.out.len]; rfl, by omega, ?_⟩⟩
           have hF := HE.out.2
           by_cases hg : gm < bx.length
           · refine .inr ⟨by omega, hg, ?_⟩
             rw [HTL.out.2, HF1.out _ HNB.out hg, hF]
           refine .inl ⟨by omega, by omega, ?_⟩
           rw [HTL.out.2, HF2.out _ HNB.out hg, hF]
          case measure => have := HK.out; simp [intOf]; omega
        have hgk : 0 < k := by omega
        by_cases hnx : (f : Int) = next
        · have hb3 : ((f : Int) != next) = false := by simp [hnx]
          by_cases htn : n < bs.length
          · have htn' : (n : Int) < (bs.length : Int) := by omega
            go_wp2
            refine bodyPost_ret (v := .tuple #[.slice oa k oc, .slice ba bs.length bc, .int .i64 (n : Int), .int .i64 next]) (by simp [results, Tryz.results36, go_sem]) (by rfl) ?_
            have hz := Q.out.bad BL.out (fun hle => absurd htn (by omega)) B3.out
            rw [Q.out.len] at hz
            exact hz
          have htn' : ¬ (n : Int) < (bs.length : Int) := by omega
          have HNB : Hid (¬ BAD ⟨segs, next⟩ x) := by
           show ¬ _
           rw [HBI.out]
           rintro (h | h | h)
           · exact h her
           · exact h hfx
           exact h (.inr (hfx.symm.trans hnx))
          have HTL : Hid (bs.length ≤ n ∧ lgFind t l ⟨[], 0⟩ = lgFind t (x :: l.drop (k + 1)) ⟨segs, next⟩) := by
           show _ ∧ _
           rcases Q.out.rel with ⟨h1, _, h2⟩ | ⟨h0, h1, _⟩
           · exact ⟨h1, by rw [h2, HDR.out]⟩
           omega
          have ho3 : Hid (OwnV w3 wl.heap.size 2 (.slice oa k oc) (i64V segs)) := by
           have := OwnV.below_ Q.out.own B3.out
           rw [Q.out.len] at this
           exact this
          have hwl : wl.heap.size ≤ w3.heap.size := Nat.le_trans Q.out.bel.size B3.out.size
          have hsg : segs.length ≤ 1000 := by rw [Q.out.len]; omega
          have g1 := HXL.out.1
          have g2 := HXL.out.2.1
          have g3 := HXL.out.2.2.1
          have g4 := HXL.out.2.2.2
          generalize hF : (f : Int) = F at *
          have g3' : 0 ≤ F ∧ F ≤ 1073741824 := by omega
          obtain ⟨g5, g6⟩ := g3'
          have g7 : fs.length ≤ 1100000 := by omega
          have HE := Qh (Qa her hfx)
          clear her hfx hF hnx
          go_wp2_with (first
           | (at_builtin; refine wpList_append_ints rfl (.tmp 84) (.tmp 86) 50 rfl wl.heap.size _ Tryz.underlying50 info_i64m _ segs rfl (ho3.out.alloc _) _ (some ⟨w3.heap.size, 0, none⟩) 1 1 [F] rfl (lit_row w3 [F] (by simp [maxLen])) rfl (fun h => by cases h) (by omega) (by simp; omega) ?_; intro v6 w6 ho6 hg6 hat6; have G6 : Hid (OwnV w6 wl.heap.size 2 v6 (i64V (segs ++ [F])) ∧ (w3.alloc (.cells #[.int .i64 F] 2)).grownBy w6 (Value.slice oa k oc).ownBlock ∧ (v6.ownBlock = (Value.slice oa k oc).ownBlock ∨ v6.ownBlock = some (w3.alloc (.cells #[.int .i64 F] 2)).heap.size)) := ⟨ho6, hg6, hat6⟩; clear ho6 hg6 hat6)
           | fail)
          obtain ⟨ho6, hg6, hat6⟩ := G6.out
          have hB6 : Below wl.heap.size wl w6 := (((Q.out.bel.trans (B3.out.mono Q.out.bel.size)).alloc hwl _)).grown hg6 (by simp; omega) (fun k hk => (ho3.out.at_base hk).1)
          have hx6 : Sl w6 w6.heap.size xa bx.length xc bx ∧ ∀ b o, xa = some ⟨b, o, none⟩ → wl.heap.size ≤ b ∧ b < w6.heap.size ∧ some b ≠ v6.ownBlock := far_append ho3.out hg6 hat6 XS3.out (fun b o e => ⟨XS.out.2 b o e, XB3.out b o e⟩) (Nat.le_trans Q.out.bel.size W1.out) (fun q hq => Nat.lt_of_lt_of_le (OWN.out q hq) W1.out)
          have H6 := Qh (Qa ho6 (Qa hB6 hx6))
          clear ho6 hg6 hat6 hB6 hx6
          obtain ⟨a6, c6, rfl, _, _⟩ := OwnV.out_ H6.out.1
          go_roundw
          case rel =>
           refine ⟨k + 1, a6, c6, xa, xc, segs ++ [F], bx, gm, F + (fs.length : Int), HK.out.1, by go_num, by rw [List.length_append, Q.out.len]; rfl, rfl, rfl, by trivial, ⟨H6.out.1, H6.out.2.2.1, H6.out.2.2.2, H6.out.2.1, by rw [List.length_append, Q.out.len]; rfl, by omega, ?_⟩⟩
           have hF := HE.out.2
           by_cases hg : gm < bx.length
           · refine .inr ⟨by omega, hg, ?_⟩
             rw [HTL.out.2, HF1.out _ HNB.out hg, hF]
           refine .inl ⟨by omega, by omega, ?_⟩
           rw [HTL.out.2, HF2.out _ HNB.out hg, hF]
          case measure => have := HK.out; simp [intOf]; omega
        have hb3 : ((f : Int) != next) = true := by simp [hnx]
        go_wp2
        refine bodyPost_ret (v := .tuple #[.slice oa k oc, .slice ba bs.length bc, .int .i64 (n : Int), .int .i64 next]) (by simp [results, Tryz.results36, go_sem]) (by rfl) ?_
        have hz := Q.out.bad BL.out (fun hle => by rw [HDR.out]; exact HF0.out _ (by rw [HBI.out]; exact .inr (.inr (fun h => by rcases h with h | h; exact hk00 (by have h9 : segs = [] := h; rw [← Q.out.len, h9]; rfl); exact hnx (hfx.trans h))))) B3.out
        rw [Q.out.len] at hz
        exact hz
      have hb2 : ((f : Int) != x) = true := by simp [hfx]
      go_wp2
      refine bodyPost_ret (v := .tuple #[.slice oa k oc, .slice ba bs.length bc, .int .i64 (n : Int), .int .i64 next]) (by simp [results, Tryz.results36, go_sem]) (by rfl) ?_
      have hz := Q.out.bad BL.out (fun hle => by rw [HDR.out]; exact HF0.out _ (by rw [HBI.out]; exact .inr (.inl hfx))) B3.out
      rw [Q.out.len] at hz
      exact hz
    have hb1 : ((er : Int) != 0) = true := by simp; omega
    go_wp2
    refine bodyPost_ret (v := .tuple #[.slice oa k oc, .slice ba bs.length bc, .int .i64 (n : Int), .int .i64 next]) (by simp [results, Tryz.results36, go_sem]) (by rfl) ?_
    have hz := Q.out.bad BL.out (fun hle => by rw [HDR.out]; exact HF0.out _ (by rw [HBI.out]; exact .inl her)) B3.out
    rw [Q.out.len] at hz
    exact hz
  have hkm : k = m := by omega
  have hlt' : ¬ (k : Int) < (m : Int) := by omega
  have hz := Q.out.bad BL.out (fun hle => by rw [List.drop_of_length_le (by have := HM.out; omega)]; rfl) Qb
  rw [Q.out.len] at hz
  have HZ := Qh hz
  clear hz hkm hlt
  go_wp2
  refine bodyPost_ret (v := .tuple #[.slice oa k oc, .slice ba bs.length bc, .int .i64 (n : Int), .int .i64 next]) (by simp [results, Tryz.results36, go_sem]) (by rfl) ?_
  exact HZ.out
end
end Go.Proofs.YtamblmoedommfaaGreatDoor
