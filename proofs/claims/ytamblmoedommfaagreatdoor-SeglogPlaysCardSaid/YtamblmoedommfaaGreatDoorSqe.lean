/- Contracts of the program's manifest: the calls that Swap doe. Names of segments: plain mathematics. What a segment is, as plain mathematics: its head, what Read. The log on a disk, as plain mathematics: what Open, Append, . Contracts of the program's segment: Name, First. Contracts of the program's frame: Right; the reader's closur. Contracts of the program's frame: reader, read, length. The library's Clone of bytes. Contracts of the program's frame: length, Clone, Get. Rows of frames in memory; the reference's Same. Contracts of the program's frame: Scan. 'append(s, x. Contracts of the program's segment: write, Head, read, readH. -/
import Derived.Test.YtamblmoedommfaaGreatDoorSqa
import Derived.Test.YtamblmoedommfaaGreatDoorSqb
import Derived.Test.YtamblmoedommfaaGreatDoorSqc
import Derived.Test.YtamblmoedommfaaGreatDoorSqd
import Derived.Defers
import Derived.Lib.ItoaNum
import Derived.Lib.ItoaMem
import Derived.Lib.ParseIntB
import Derived.Lib.ParseIntBCases
import Derived.Lib.ParseIntBTie
import Derived.Lib.Repeat
import Derived.Lib.Strings
import Derived.Test.YtamblmoedommfaaGreatDoorLib
import Derived.Test.YtamblmoedommfaaGreatDoorProg
import Derived.Test.YtamblmoedommfaaGreatDoorChecked
import Derived.Lib.AppendIntMem
import Derived.OneCell
import Derived.Lib.SliceRun
import Derived.Deep.RegionHeld3
import Derived.Deep.DrawnRows
import Derived.Deep.CutRange
import Derived.Deep.DeepCutAuto
import Derived.Deep.QuietTactic
import Derived.BigQuiet
import Derived.Laws.Append
import Derived.Lib.SlBytesConst
import Derived.Lib.EndianBits
import Derived.Deep.RegionHeld
import Derived.Below
namespace Go.Proofs.YtamblmoedommfaaGreatDoor
set_option maxRecDepth 100000
set_option maxHeartbeats 40000000
set_option linter.unusedVariables false
set_option linter.unusedSimpArgs false
set_option linter.unusedSectionVars false
section
section
open Go.RowKit Go.Sort
open Crc Frm
attribute [local go_sem] Oper.semAt_some
theorem sw2_any {w0 w : World} {dp bd : Nat} {t : St} {O : Nat → Prop} (h : DK w0 w dp t O) (hd : w.cell? ⟨bd, 0, none⟩ = some (.pointer (some ⟨dp, 0, none⟩))) :
 Calls Tryz.prog 134 #[.pointer (some ⟨bd, 0, none⟩)] w fun e w' => e = .returned (.int .i64 (delNext t).1) ∧ Mv w0 w dp O (delNext t).2 w' := by
 have DL := Qh (delnext_any h)
 clear h
 generalize delNext t = r at *
 go_enter Tryz.func134, Tryz.ntmps134
 go_wp2_with fail
 refine DL.out.mono ?_
 rintro e w1 ⟨rfl, hmv⟩
 have HM := Qh hmv
 clear hmv DL
 go_wp2
 go_ret
 exact ⟨rfl, HM.out⟩
theorem sw4_any {w0 w : World} {dp bd : Nat} {t : St} {O : Nat → Prop} (h : DK w0 w dp t O) (hd : w.cell? ⟨bd, 0, none⟩ = some (.pointer (some ⟨dp, 0, none⟩))) :
 Calls Tryz.prog 138 #[.pointer (some ⟨bd, 0, none⟩)] w fun e w' => e = .returned (.int .i64 (t.sync nxL).1) ∧ Mv w0 w dp O (t.sync nxL).2 w' := by
 have DL := h.sync nxS (by decide)
 change Calls _ _ _ _ (fun e w' => e = .returned (.int .i64 (t.sync nxL).1) ∧ Mv w0 w dp O (t.sync nxL).2 w') at DL
 unfold nxS at DL
 have DL := Qh DL
 clear h
 generalize t.sync nxL = r at *
 go_enter Tryz.func138, Tryz.ntmps138
 go_wp2_with fail
 refine DL.out.mono ?_
 rintro e w1 ⟨rfl, hmv⟩
 have HM := Qh hmv
 clear hmv DL
 go_wp2
 go_ret
 exact ⟨rfl, HM.out⟩
theorem sw5_any {w0 w : World} {dp bd : Nat} {t : St} {O : Nat → Prop} (h : DK w0 w dp t O) (hd : w.cell? ⟨bd, 0, none⟩ = some (.pointer (some ⟨dp, 0, none⟩))) :
 Calls Tryz.prog 139 #[.pointer (some ⟨bd, 0, none⟩)] w fun e w' => e = .returned (.int .i64 (t.rename nxL mfL).1) ∧ Mv w0 w dp O (t.rename nxL mfL).2 w' := by
 have DL := h.rename nxS mfS (by decide) (by decide)
 change Calls _ _ _ _ (fun e w' => e = .returned (.int .i64 (t.rename nxL mfL).1) ∧ Mv w0 w dp O (t.rename nxL mfL).2 w') at DL
 unfold nxS mfS at DL
 have DL := Qh DL
 clear h
 generalize t.rename nxL mfL = r at *
 go_enter Tryz.func139, Tryz.ntmps139
 go_wp2_with fail
 refine DL.out.mono ?_
 rintro e w1 ⟨rfl, hmv⟩
 have HM := Qh hmv
 clear hmv DL
 go_wp2
 go_ret
 exact ⟨rfl, HM.out⟩
theorem mPut_len (l : List Int) : (mPut l).length ≤ 2000 := by
 unfold mPut
 split
 · next h =>
   have h1 := (mOk_all h).2.1
   have h2 := mNums_len l
   simp only [mRaw, mSum, List.length_append, List.length_cons, be_len]
   omega
 simp
theorem mPut_byte (l : List Int) : ∀ c ∈ mPut l, c < 256 := by
 intro c hc
 unfold mPut at hc
 split at hc
 · next h =>
   rcases List.mem_append.1 hc with h1 | h1
   · rcases List.mem_cons.1 h1 with rfl | h2
     · have := (mOk_all h).2.1; omega
     exact mNums_byte l c h2
   exact be_byte _ _ c h1
 cases hc
theorem sw3_any {w0 w : World} {dp bd bl : Nat} {t : St} {O : Nat → Prop} (h : DK w0 w dp t O) (hd : w.cell? ⟨bd, 0, none⟩ = some (.pointer (some ⟨dp, 0, none⟩))) (l : List Int) (a : Option Addr) (n c : Nat)
 (hl : w.cell? ⟨bl, 0, none⟩ = some (.slice a n c)) (hr : Row w w.heap.size a n c 1 (intsC l)) (hn : l.length = n) (hdO : ¬ O bd) (hlO : ¬ O bl) :
 Calls Tryz.prog 136 #[.pointer (some ⟨bd, 0, none⟩), .pointer (some ⟨bl, 0, none⟩)] w fun e w' => e = .returned (.int .i64 (t.write nxL (mPut l)).1) ∧ Mv w0 w dp O (t.write nxL (mPut l)).2 w' := by
 have PT := Qh (mput_any l a n c w.drew (row_drew hr) hn)
 have hpl := mPut_len l
 have hpb := Qh (mPut_byte l)
 have HK := Qh (Qa h (Qa hdO hlO))
 have hbd := block_lt_of_cell hd
 have hbl := block_lt_of_cell hl
 clear h hdO hlO hr
 obtain ⟨r, hr9⟩ : ∃ r, r = t.write nxL (mPut l) := ⟨_, rfl⟩
 rw [← hr9]
 have HR9 := Qh hr9
 clear hr9
 go_enter Tryz.func136, Tryz.ntmps136
 go_wp2_with fail
 refine wp_region_held_drew (S := fun x => x.cell? ⟨bd, 0, none⟩ = some (.pointer (some ⟨dp, 0, none⟩)) ∧ x.cell? ⟨bl, 0, none⟩ = some (.slice a n c)) (by kernel_rfl) ⟨hd, hl⟩ (fun hHeld => ?_)
 refine qi 0 (by assumption) ?_
 iterate 2 (refine qk rfl (by kernel_rfl) (fun _ _ _ h => h) (by intro w hSw; (try dsimp only at hSw); go_simp; all_goals with_reducible rfl) (by (try simp only [Act.put, lz]); rfl) ?_)
 refine qo ?_
 refine qr 2 rfl (by kernel_rfl) (fun K hK => ?_)
 rw [if_pos (by rfl)]
 go_simp
 go_at_call 137
 refine PT.out.mono ?_
 rintro e w1 ⟨v, rfl, hv, hb1⟩
 have hb1' : Below w.heap.size w w1 := below_drew_of hb1
 have k1 := (hb1'.cell (p := ⟨bd, 0, none⟩) hbd).trans hd
 have k2 := (hb1'.cell (p := ⟨bl, 0, none⟩) hbl).trans hl
 obtain ⟨va, vc, rfl, hvs, hvb⟩ := hv.sl_base hpb.out
 have WR := (HK.out.1.on hb1').write nxS (by decide) va _ vc _ hvs (by omega) (fun _ k o e ho => by have h1 := hvb k o e; have h2 := HK.out.1.lt k ho; have h3 : w.drew.heap.size = w.heap.size := rfl; omega)
 change Calls _ _ _ _ (fun e w' => e = .returned (.int .i64 (t.write nxL (mPut l)).1) ∧ Mv w0 w1 dp O (t.write nxL (mPut l)).2 w') at WR
 unfold nxS at WR
 rw [← HR9.out] at WR
 have WR := Qh WR
 have HB := Qh hb1'
 clear hv hb1 hvs hvb hb1' PT
 generalize (mPut l).length = pn at *
 refine hK.out _ _ ?_ (fun hHeld => ?_)
 · exact ⟨k1, k2⟩
 clear hK K
 try simp only [Act.put, lz]
 refine qr 3 rfl (by kernel_rfl) (fun K hK => ?_)
 rw [if_pos (by rfl)]
 go_simp
 go_at_call 62
 refine WR.out.mono ?_
 rintro e w2 ⟨rfl, hmv⟩
 have j1 := (hmv.far.choose_spec.2.1.cell (b := bd) (o := 0) (Nat.lt_of_lt_of_le hbd HB.out.size) HK.out.2.1).trans k1
 have j2 := (hmv.far.choose_spec.2.1.cell (b := bl) (o := 0) (Nat.lt_of_lt_of_le hbl HB.out.size) HK.out.2.2).trans k2
 have HM := Qh (Mv.behind HB.out hmv)
 clear hmv WR
 refine hK.out _ _ ?_ (fun hHeld => ?_)
 · exact ⟨j1, j2⟩
 clear hK K
 try simp only [Act.put, lz]
 refine qi 4 (by assumption) ?_
 refine qk rfl (by kernel_rfl) (fun _ _ _ h => h) (by intro w hSw; (try dsimp only at hSw); go_simp; all_goals with_reducible rfl) (by (try simp only [Act.put, lz]); rfl) ?_
 refine qo ?_
 refine wpAnyH_done (by kernel_rfl) ?_ _
 clear hHeld
 go_wp2
 go_ret
 exact ⟨rfl, HM.out⟩
end
section
open Go.RowKit Go.Sort
open Crc Frm
attribute [local go_sem] Oper.semAt_some
theorem inturn_any (n : Nat) (fs : Nat → FuncId) (cs : Nat → Array Value) (g : Nat) (w : World) (J : Nat → World → Prop) (R : Int → World → Prop) (hn : n ≤ 1000)
 (hcell : ∀ k w', k < n → J k w' → w'.cell? ⟨g, k, none⟩ = some (.func (.func (fs k)) #[] (cs k)))
 (hc : ∀ k x, k < n → (callFunc (fs k) (cs k)).run Tryz.prog x = .ok (.enter (fs k) (cs k)) x)
 (hcall : ∀ k w', k < n → J k w' → Calls Tryz.prog (fs k) (cs k) w' fun e w'' => ∃ x, e = .returned (.int .i64 x) ∧ (x = 0 → J (k + 1) w'') ∧ (x ≠ 0 → R x w''))
 (hend : ∀ w', J n w' → R 0 w') (h0 : J 0 w) :
 Calls Tryz.prog 133 #[.slice (some ⟨g, 0, none⟩) n n] w fun e w' => ∃ x, e = .returned (.int .i64 x) ∧ R x w' := by
 have HC := Qh hcell
 have HL := Qh hcall
 have HE := Qh hend
 have HF := Qh hc
 have H0 := Qh h0
 clear hcell hc hcall hend h0
 go_enter Tryz.func133, Tryz.ntmps133
 go_wp2_with fail
 go_loopw [4, 5, 8] (fun _ _ i wr => ∃ k : Nat, k ≤ n ∧ i = .int .i64 (k : Int) ∧ J k wr) (fun _ _ i _ => n - (intOf i).toNat)
 case atStart => exact ⟨0, Nat.zero_le _, rfl, H0.out⟩
 case round =>
  obtain ⟨k, hk, rfl, hj⟩ := hrel
  by_cases hlt : k < n
  · have c0 := HC.out k wr hlt hj
    have cf := fun x => HF.out k x hlt
    have CL := Qh (HL.out k wr hlt hj)
    have c1 : wr.cell? ⟨g, 0 + k, none⟩ = some (.func (.func (fs k)) #[] (cs k)) := by rw [Nat.zero_add]; exact c0
    clear hj
    generalize fs k = fk at *
    generalize cs k = ck at *
    go_wp2_with fail
    refine CL.out.mono ?_
    rintro e w1 ⟨x, rfl, hx0, hx1⟩
    have X0 := Qh hx0
    have X1 := Qh hx1
    clear hx0 hx1 CL c0 c1 cf
    by_cases hx : x = 0
    · subst hx
      go_wp2
      go_roundw
      case rel => exact ⟨k + 1, by omega, by go_num, X0.out (by trivial)⟩
      case measure => simp [intOf]; omega
    go_wp2
    go_ret
    exact ⟨x, rfl, X1.out hx⟩
  have hkn : k = n := by omega
  subst hkn
  have HJ := Qh hj
  clear hj
  go_wp2
  go_ret
  exact ⟨0, rfl, HE.out _ HJ.out⟩
def mClean (x : Int) (t : St) : St := if x ≠ 0 ∧ x ≠ 42 then (t.delete nxL).2 else t
theorem sw1_any {w0 w : World} {dp bd be : Nat} {t : St} {O : Nat → Prop} (h : DK w0 w dp t O) (x : Int) (u : FrameMode) (hd : w.cell? ⟨bd, 0, none⟩ = some (.pointer (some ⟨dp, 0, none⟩))) (he : w.cell? ⟨be, 0, none⟩ = some (.int .i64 x)) :
 CallsD Tryz.prog 132 #[.pointer (some ⟨be, 0, none⟩), .pointer (some ⟨bd, 0, none⟩)] u w fun e u' w' => u' = u ∧ (e = .returned (.tuple #[]) ∧ Mv w0 w dp O (mClean x t) w') := by
 have DL := h.delete nxS (by decide)
 change Calls _ _ _ _ (fun e w' => e = .returned (.int .i64 (t.delete nxL).1) ∧ Mv w0 w dp O (t.delete nxL).2 w') at DL
 unfold nxS at DL
 have DL := Qh DL
 have HS := Qh (Mv.still h Qb)
 have HC : Hid (mClean x t = if x ≠ 0 ∧ x ≠ 42 then (t.delete nxL).2 else t) := rfl
 clear h
 generalize t.delete nxL = r at *
 by_cases h0 : x = 0
 · subst h0
   have hc : Hid (mClean 0 t = t) := HC.out.trans (if_neg (by simp))
   go_enter_d Tryz.func132, Tryz.ntmps132
   go_wp2
   go_end0
   exact ⟨rfl, by rw [hc.out]; exact HS.out⟩
 by_cases h1 : x = 42
 · subst h1
   have hc : Hid (mClean 42 t = t) := HC.out.trans (if_neg (by simp))
   go_enter_d Tryz.func132, Tryz.ntmps132
   go_wp2
   go_end0
   exact ⟨rfl, by rw [hc.out]; exact HS.out⟩
 have hc : Hid (mClean x t = r.2) := HC.out.trans (if_pos ⟨h0, h1⟩)
 have x0 : (x != 0) = true := by simp [h0]
 have x1 : (x != 42) = true := by simp [h1]
 have y0 : (x == 0) = false := by simp [h0]
 have y1 : (x == 42) = false := by simp [h1]
 go_enter_d Tryz.func132, Tryz.ntmps132
 go_wp2_with fail
 refine DL.out.mono ?_
 rintro e w1 ⟨rfl, hmv⟩
 have HM := Qh hmv
 clear hmv DL
 go_wp2
 go_end0
 exact ⟨rfl, by rw [hc.out]; exact HM.out⟩
end
section
open Go.RowKit Go.Sort
open Crc Frm
attribute [local go_sem] Oper.semAt_some
def mSt (t : St) (l : List Int) : Nat → St
 | 0 => t
 | 1 => (delNext t).2
 | 2 => ((delNext t).2.write nxL (mPut l)).2
 | 3 => (((delNext t).2.write nxL (mPut l)).2.sync nxL).2
 | _ => ((((delNext t).2.write nxL (mPut l)).2.sync nxL).2.rename nxL mfL).2
def mAns (t : St) (l : List Int) : Nat → Int
 | 0 => (delNext t).1
 | 1 => ((mSt t l 1).write nxL (mPut l)).1
 | 2 => ((mSt t l 2).sync nxL).1
 | _ => ((mSt t l 3).rename nxL mfL).1
def mTurn (t : St) (l : List Int) : Int × St :=
 if mAns t l 0 ≠ 0 then (mAns t l 0, mSt t l 1) else if mAns t l 1 ≠ 0 then (mAns t l 1, mSt t l 2) else if mAns t l 2 ≠ 0 then (mAns t l 2, mSt t l 3) else (mAns t l 3, mSt t l 4)
def mSwap (t : St) (l : List Int) : Int × St := if mOk l = true then ((mTurn t l).1, mClean (mTurn t l).1 (mTurn t l).2) else (1, t)
theorem turn_stop (t : St) (l : List Int) (k : Nat) (hk : k < 4) (h0 : ∀ j, j < k → mAns t l j = 0) (h1 : mAns t l k ≠ 0) : mTurn t l = (mAns t l k, mSt t l (k + 1)) := by
 unfold mTurn
 match k, hk with
 | 0, _ => rw [if_pos h1]
 | 1, _ => rw [if_neg (by simp [h0 0 (by omega)]), if_pos h1]
 | 2, _ => rw [if_neg (by simp [h0 0 (by omega)]), if_neg (by simp [h0 1 (by omega)]), if_pos h1]
 | 3, _ => rw [if_neg (by simp [h0 0 (by omega)]), if_neg (by simp [h0 1 (by omega)]), if_neg (by simp [h0 2 (by omega)])]
theorem turn_end (t : St) (l : List Int) (h0 : ∀ j, j < 4 → mAns t l j = 0) : mTurn t l = (0, mSt t l 4) := by
 unfold mTurn
 rw [if_neg (by simp [h0 0 (by omega)]), if_neg (by simp [h0 1 (by omega)]), if_neg (by simp [h0 2 (by omega)]), h0 3 (by omega)]
abbrev swF : Nat → FuncId
 | 0 => 134
 | 1 => 136
 | 2 => 138
 | _ => 139
abbrev swC (bd bl : Nat) : Nat → Array Value
 | 1 => #[.pointer (some ⟨bd, 0, none⟩), .pointer (some ⟨bl, 0, none⟩)]
 | _ => #[.pointer (some ⟨bd, 0, none⟩)]
theorem Mv.then {w0 w w1 w' : World} {dp : Nat} {O O1 : Nat → Prop} {t : St} (hb : But O w w1) (hO : ∀ k, O1 k → O k ∨ w.heap.size ≤ k) (h : Mv w0 w1 dp O1 t w') : Mv w0 w dp O t w' := by
 obtain ⟨O', h1, h2, h3⟩ := h
 exact ⟨O', h1, hb.trans h2 hO, fun k hk => by rcases h3 k hk with h4 | h4; exact hO k h4; exact .inr (Nat.le_trans hb.size h4)⟩
theorem swaps_any {w0 w : World} {dp bd bl g : Nat} {t : St} {O : Nat → Prop} (h : DK w0 w dp t O) (l : List Int) (a : Option Addr) (n c : Nat)
 (hd : w.cell? ⟨bd, 0, none⟩ = some (.pointer (some ⟨dp, 0, none⟩))) (hl : w.cell? ⟨bl, 0, none⟩ = some (.slice a n c)) (hr : Row w w.heap.size a n c 1 (intsC l)) (hn : l.length = n)
 (hdO : ¬ O bd) (hlO : ¬ O bl) (hgO : ¬ O g) (hfar : 0 < n → ∀ k o, a = some ⟨k, o, none⟩ → ¬ O k) (hg : ∀ k, k < 4 → w.cell? ⟨g, k, none⟩ = some (.func (.func (swF k)) #[] (swC bd bl k))) :
 Calls Tryz.prog 133 #[.slice (some ⟨g, 0, none⟩) 4 4] w fun e w' => ∃ x, e = .returned (.int .i64 x) ∧ (x = (mTurn t l).1 ∧ Mv w0 w dp O (mTurn t l).2 w') := by
 have hbd := block_lt_of_cell hd
 have hbl := block_lt_of_cell hl
 have hbg := block_lt_of_cell (hg 0 (by omega))
 have k2 : ∀ x : World, (callFunc 134 #[.pointer (some ⟨bd, 0, none⟩)]).run Tryz.prog x = .ok (.enter 134 #[.pointer (some ⟨bd, 0, none⟩)]) x := fun x => by kernel_rfl
 have k3 : ∀ x : World, (callFunc 136 #[.pointer (some ⟨bd, 0, none⟩), .pointer (some ⟨bl, 0, none⟩)]).run Tryz.prog x = .ok (.enter 136 #[.pointer (some ⟨bd, 0, none⟩), .pointer (some ⟨bl, 0, none⟩)]) x := fun x => by kernel_rfl
 have k4 : ∀ x : World, (callFunc 138 #[.pointer (some ⟨bd, 0, none⟩)]).run Tryz.prog x = .ok (.enter 138 #[.pointer (some ⟨bd, 0, none⟩)]) x := fun x => by kernel_rfl
 have k5 : ∀ x : World, (callFunc 139 #[.pointer (some ⟨bd, 0, none⟩)]).run Tryz.prog x = .ok (.enter 139 #[.pointer (some ⟨bd, 0, none⟩)]) x := fun x => by kernel_rfl
 refine inturn_any 4 swF (swC bd bl) g w (fun k w' => (∀ j, j < k → mAns t l j = 0) ∧ Mv w0 w dp O (mSt t l k) w') (fun x w' => x = (mTurn t l).1 ∧ Mv w0 w dp O (mTurn t l).2 w') (by omega) ?_ ?_ ?_ ?_ ?_
 · rintro k w' hk ⟨_, O', _, hb, _⟩
   exact (hb.cell hbg hgO).trans (hg k hk)
 · intro k x hk
   match k, hk with
   | 0, _ => exact k2 x
   | 1, _ => exact k3 x
   | 2, _ => exact k4 x
   | 3, _ => exact k5 x
 · rintro k w' hk ⟨h0, hmv⟩
   have hout : ∀ w'', Mv w0 w dp O (mSt t l (k + 1)) w'' → (mAns t l k = 0 → (∀ j, j < k + 1 → mAns t l j = 0) ∧ Mv w0 w dp O (mSt t l (k + 1)) w'') ∧ (mAns t l k ≠ 0 → mAns t l k = (mTurn t l).1 ∧ Mv w0 w dp O (mTurn t l).2 w'') := by
    intro w'' hm
    refine ⟨fun hz => ⟨fun j hj => ?_, hm⟩, fun hz => ?_⟩
    · by_cases hjk : j = k
      · rw [hjk]; exact hz
      exact h0 j (by omega)
    rw [turn_stop t l k hk h0 hz]
    exact ⟨rfl, hm⟩
   obtain ⟨O', hk1, hb, hO⟩ := hmv
   have d1 := (hb.cell (o := 0) hbd hdO).trans hd
   have l1 := (hb.cell (o := 0) hbl hlO).trans hl
   have nO : ∀ i, i < w.heap.size → ¬ O i → ¬ O' i := fun i hi hn ho => by rcases hO i ho with h4 | h4; exact hn h4; omega
   match k, hk with
   | 0, _ => exact (sw2_any hk1 d1).mono fun e w'' ⟨he, hm⟩ => ⟨_, he, hout w'' (Mv.then hb hO hm)⟩
   | 1, _ => exact (sw3_any hk1 d1 l a n c l1 (hr.but hb hfar) hn (nO _ hbd hdO) (nO _ hbl hlO)).mono fun e w'' ⟨he, hm⟩ => ⟨_, he, hout w'' (Mv.then hb hO hm)⟩
   | 2, _ => exact (sw4_any hk1 d1).mono fun e w'' ⟨he, hm⟩ => ⟨_, he, hout w'' (Mv.then hb hO hm)⟩
   | 3, _ => exact (sw5_any hk1 d1).mono fun e w'' ⟨he, hm⟩ => ⟨_, he, hout w'' (Mv.then hb hO hm)⟩
 · rintro w' ⟨h0, hm⟩
   rw [turn_end t l h0]
   exact ⟨rfl, hm⟩
 exact ⟨fun j hj => absurd hj (by omega), O, h, But.refl _ _, fun k hk => .inl hk⟩
end
section
open Go.RowKit Go.Sort
open Crc Frm
attribute [local go_sem] Oper.semAt_some
theorem DK.setOut {w0 w : World} {dp : Nat} {t : St} {O : Nat → Prop} (h : DK w0 w dp t O) (p : Addr) (u : Value) (hp : ¬ O p.block) (hb : w0.heap.size ≤ p.block) : DK w0 (w.setCell p u) dp t O :=
 ⟨Dsk.but h.is ((But.refl (fun k => k = p.block) w).setCell (.inl rfl) u) (fun k hk e => hp (e ▸ hk)), h.base, h.below.setCell hb u⟩
theorem Row.on9 {w w' : World} {a : Option Addr} {n c m : Nat} {cs : Nat → Value} (h : Row w w.heap.size a n c m cs) (hb : Below w.heap.size w w') : Row w' w'.heap.size a n c m cs := (h.below hb Qn).more hb.size
theorem mswap_any {w0 w : World} {dp : Nat} {t : St} {O : Nat → Prop} (h : DK w0 w dp t O) (l : List Int) (a : Option Addr) (n c : Nat) (hr : Row w w.heap.size a n c 1 (intsC l)) (hn : l.length = n)
 (hfar : 0 < n → ∀ k o, a = some ⟨k, o, none⟩ → ¬ O k) :
 Calls Tryz.prog 78 #[.pointer (some ⟨dp, 0, none⟩), .slice a n c] w fun e w' => e = .returned (.int .i64 (mSwap t l).1) ∧ Mv w0 w dp O (mSwap t l).2 w' := by
 have hmf : ∀ (fn : Fn) (first cap : Array Value) (w : World), (Instr.makeFunc fn first cap).run Tryz.prog w = .ok (.func fn first cap) w := fun _ _ _ _ => rfl
 have hlt := h.lt
 obtain ⟨w3, hw3⟩ : ∃ w3, w3 = ((w.alloc (.cells #[.pointer (some ⟨dp, 0, none⟩)] 24)).alloc (.cells #[.slice a n c] 50)).alloc (.cells #[.int .i64 0] 30) := ⟨_, rfl⟩
 have hB3 : Below w.heap.size w w3 := by rw [hw3]; exact ((Qb.alloc Qn _).alloc (by simp) _).alloc (by simp; omega) _
 have hs3 : w3.heap.size = w.heap.size + 3 := by rw [hw3]; simp
 have R := Qh (mright_any l a n c w3 (hr.below hB3 Qn |>.more hB3.size) hn)
 rw [hw3] at R
 have HK := Qh (Qa h (Qa hr (Qa hn hfar)))
 clear h hr hn hfar
 by_cases hok : mOk l = true
 · have hsw : Hid (mSwap t l = ((mTurn t l).1, mClean (mTurn t l).1 (mTurn t l).2)) := if_pos hok
   rw [hok] at R
   go_enter_defers Tryz.func78, Tryz.ntmps78
   go_wp2_with fail
   refine R.out.mono ?_
   rintro e w1 ⟨rfl, rfl⟩
   obtain ⟨w4, hw4⟩ : ∃ w4, w4 = w3.alloc (.cells #[.func (.func 134) #[] #[.pointer (some ⟨w.heap.size, 0, none⟩)], .func (.func 136) #[] #[.pointer (some ⟨w.heap.size, 0, none⟩), .pointer (some ⟨w.heap.size + 1, 0, none⟩)],
    .func (.func 138) #[] #[.pointer (some ⟨w.heap.size, 0, none⟩)], .func (.func 139) #[] #[.pointer (some ⟨w.heap.size, 0, none⟩)]] 62) := ⟨_, rfl⟩
   have hB4 : Below w.heap.size w w4 := by rw [hw4]; exact hB3.alloc hB3.size _
   have hs4 : w4.heap.size = w.heap.size + 4 := by rw [hw4]; simp [hs3]
   have hd4 : w4.cell? ⟨w.heap.size, 0, none⟩ = some (.pointer (some ⟨dp, 0, none⟩)) := by rw [hw4, hw3]; simp [go_sem]
   have hl4 : w4.cell? ⟨w.heap.size + 1, 0, none⟩ = some (.slice a n c) := by rw [hw4, hw3]; simp [go_sem]
   have he4 : w4.cell? ⟨w.heap.size + 2, 0, none⟩ = some (.int .i64 0) := by rw [hw4, hw3]; simp [go_sem]
   have hz4 : w4.frozen? ⟨w.heap.size + 2, 0, none⟩ = false := by rw [hw4, hw3]; simp [go_sem]
   have hg4 : ∀ k, k < 4 → w4.cell? ⟨w.heap.size + 3, k, none⟩ = some (.func (.func (swF k)) #[] (swC w.heap.size (w.heap.size + 1) k)) := by
    intro k hk
    rw [hw4, ← hs3]
    match k, hk with
    | 0, _ => exact (cell_of_row _ _ 0 _ _ _ (heap_alloc_new w3 _)).trans rfl
    | 1, _ => exact (cell_of_row _ _ 1 _ _ _ (heap_alloc_new w3 _)).trans rfl
    | 2, _ => exact (cell_of_row _ _ 2 _ _ _ (heap_alloc_new w3 _)).trans rfl
    | 3, _ => exact (cell_of_row _ _ 3 _ _ _ (heap_alloc_new w3 _)).trans rfl
   have IT := swaps_any (HK.out.1.on hB4) l a n c hd4 hl4 (HK.out.2.1.on9 hB4) HK.out.2.2.1 (fun ho => by have := hlt _ ho; omega) (fun ho => by have := hlt _ ho; omega) (fun ho => by have := hlt _ ho; omega) HK.out.2.2.2 hg4
   have H4 := Qh (Qa hB4 (Qa hs4 (Qa hd4 (Qa he4 hz4))))
   rw [hw4, hw3] at IT
   have IT := Qh IT
   clear hg4 hl4 hB4 hs4 hd4 he4 hz4 R
   go_wp2_with fail
   refine IT.out.mono ?_
   rintro e w5 ⟨x, rfl, hx, hmv⟩
   rw [← hw3, ← hw4] at hmv
   obtain ⟨O5, k5, b5, f5⟩ := hmv
   have d5 := (b5.cell (b := w.heap.size) (o := 0) (by have := H4.out.2.1; omega) (fun ho => by have := hlt _ ho; omega)).trans H4.out.2.2.1
   have e5 := (b5.cell (b := w.heap.size + 2) (o := 0) (by have := H4.out.2.1; omega) (fun ho => by have := hlt _ ho; omega)).trans H4.out.2.2.2.1
   have z5 := (b5.frozen (b := w.heap.size + 2) (o := 0) (by have := H4.out.2.1; omega) (fun ho => by have := hlt _ ho; omega)).trans H4.out.2.2.2.2
   have q5 : w.heap.size + 2 = w.heap.size + 1 + 1 := rfl
   rw [q5] at e5 z5
   have H5 := Qh (Qa k5 (Qa b5 (Qa f5 (Qa hx d5))))
   clear k5 b5 f5 hx IT d5
   go_wp2_with fail
   have hbe : ¬ O5 (w.heap.size + 1 + 1) := fun ho => by
    rcases H5.out.2.2.1 _ ho with h1 | h1
    · have := hlt _ h1; omega
    have := H4.out.2.1; omega
   have hbd : ¬ O5 w.heap.size := fun ho => by
    rcases H5.out.2.2.1 _ ho with h1 | h1
    · have := hlt _ h1; omega
    have := H4.out.2.1; omega
   have hs5 : w.heap.size + 4 ≤ w5.heap.size := by have := H5.out.2.1.size; have := H4.out.2.1; omega
   obtain ⟨w6, hw6⟩ : ∃ w6, w6 = w5.setCell ⟨w.heap.size + 1 + 1, 0, none⟩ (.int .i64 x) := ⟨_, rfl⟩
   have k6 : DK w0 w6 dp (mTurn t l).2 O5 := by rw [hw6]; exact H5.out.1.setOut ⟨w.heap.size + 1 + 1, 0, none⟩ _ hbe (by have := HK.out.1.below.size; show _ ≤ w.heap.size + 1 + 1; omega)
   have e6 : w6.cell? ⟨w.heap.size + 1 + 1, 0, none⟩ = some (.int .i64 x) := by rw [hw6]; exact World.cell?_setCell_same _ _ _ e5
   have d6 : w6.cell? ⟨w.heap.size, 0, none⟩ = some (.pointer (some ⟨dp, 0, none⟩)) := by rw [hw6]; exact cell_set_far H5.out.2.2.2.2 (by show w.heap.size ≠ w.heap.size + 1 + 1; omega)
   have b6 : But O w w6 := by
    rw [hw6]
    exact (((But.of_below (O := O) H4.out.1).trans H5.out.2.1 (fun _ hi => .inl hi)).setCell (p := ⟨w.heap.size + 1 + 1, 0, none⟩) (.inr (by show _ ≤ w.heap.size + 1 + 1; omega)) _)
   have hO6 : ∀ k, O5 k → O k ∨ w.heap.size ≤ k := fun k hk => by
    rcases H5.out.2.2.1 k hk with h1 | h1
    · exact .inl h1
    right; have := H4.out.2.1; omega
   have hs6 : w5.heap.size ≤ w6.heap.size := by rw [hw6]; simp
   rw [← hw6]
   refine leaves_cons (f := 132) (args := #[.pointer (some ⟨w.heap.size + 1 + 1, 0, none⟩), .pointer (some ⟨w.heap.size, 0, none⟩)]) (by simp) (by simp [go_sem]) ?_
   refine (sw1_any k6 x .returning d6 e6).mono ?_
   rintro e u' w7 ⟨rfl, rfl, hmv⟩
   have e7 : w7.cell? ⟨w.heap.size + 1 + 1, 0, none⟩ = some (.int .i64 x) := by
    obtain ⟨O7, _, b7, _⟩ := hmv
    exact (b7.cell (b := w.heap.size + 1 + 1) (o := 0) (by omega) hbe).trans e6
   refine ⟨_, (by simp [results, Tryz.results78, go_sem, e7]; rfl), ?_⟩
   have hx := H5.out.2.2.2.1
   rw [hsw.out]
   refine ⟨by rw [hx], ?_⟩
   rw [hx] at hmv
   exact Mv.then b6 hO6 hmv
 have hsw : Hid (mSwap t l = (1, t)) := if_neg hok
 have hno : mOk l = false := by simpa using hok
 rw [hno] at R
 go_enter_defers Tryz.func78, Tryz.ntmps78
 go_wp2_with fail
 refine R.out.mono ?_
 rintro e w1 ⟨rfl, rfl⟩
 go_wp2
 refine ⟨_, (by simp [results, Tryz.results78, go_sem]; rfl), ?_⟩
 rw [hsw.out]
 refine ⟨rfl, Mv.still HK.out.1 ?_⟩
 exact ((Qb.alloc Qn _).alloc (by simp) _).alloc (by simp; omega) _
end
end
section
namespace Sgn
open Go.Lib
def nm (n : Int) : List UInt8 := if 0 ≤ n ∧ n ≤ 1073741824 then 115 :: (repeatL [48] (10 - (itoa n).length) ++ itoa n) else []
def fst (l : List UInt8) : Int × Bool := match parseIntB 64 (trimPrefix l [115]) with
 | .ok v => if nm v = l then (v, true) else (0, false)
 | _ => (0, false)
theorem nDigits_le (k : Nat) : ∀ u, u < 10 ^ (k + 1) → nDigits u ≤ k + 1 := by
 induction k with
 | zero => intro u h; rw [nDigits_small (by simpa using h)]; exact Nat.le_refl _
 | succ k ih =>
  intro u h
  by_cases h9 : u < 10
  · rw [nDigits_small h9]; omega
  rw [nDigits_big h9]
  have := ih (u / 10) (by rw [Nat.pow_succ] at h; omega)
  omega
theorem itoa_len {n : Int} (h0 : 0 ≤ n) (h1 : n ≤ 1073741824) : (itoa n).length ≤ 10 := by
 obtain ⟨u, rfl⟩ := Int.eq_ofNat_of_zero_le h0
 rw [itoa_nonneg, decDigits_length]
 exact nDigits_le 9 u (by omega)
theorem parse_snoc (M : Nat) : ∀ (l : List UInt8) (acc u d : Nat), parseUintM M acc l = .ok u → d < 10 → u * 10 + d ≤ M → u < 1844674407370955162 → parseUintM M acc (l ++ [UInt8.ofNat (48 + d)]) = .ok (u * 10 + d) := by
 intro l
 induction l with
 | nil =>
  intro acc u d h hd hu h1
  simp only [parseUintM] at h
  injection h with h
  subst h
  have e : (UInt8.ofNat (48 + d)).toNat = 48 + d := by simp; omega
  simp only [List.nil_append, parseUintM, e]
  rw [if_pos (by omega), if_neg (by omega), if_neg (by omega)]
  congr 1
  omega
 | cons c l ih =>
  intro acc u d h hd hu h1
  simp only [List.cons_append, parseUintM] at h ⊢
  split at h
  · rename_i hc
    rw [if_pos hc]
    split at h
    · cases h
    rename_i h2
    rw [if_neg h2]
    split at h
    · cases h
    rename_i h3
    rw [if_neg h3]
    exact ih _ u d h hd hu h1
  cases h
theorem parse_digits (M : Nat) : ∀ (k u : Nat), u < 10 ^ (k + 1) → u ≤ M → u < 1844674407370955162 → parseUintM M 0 (decDigits u) = .ok u := by
 intro k
 induction k with
 | zero =>
  intro u h hu _
  have h9 : u < 10 := by simpa using h
  rw [decDigits_one h9]
  have := parse_snoc M [] 0 0 u rfl h9 (by omega) (by omega)
  simpa using this
 | succ k ih =>
  intro u h hu h1
  by_cases h9 : u < 10
  · rw [decDigits_one h9]
    have := parse_snoc M [] 0 0 u rfl h9 (by omega) (by omega)
    simpa using this
  rw [decDigits, dif_neg h9]
  have h2 := ih (u / 10) (by rw [Nat.pow_succ] at h; omega) (by omega) (by omega)
  have := parse_snoc M _ 0 (u / 10) (u % 10) h2 (Nat.mod_lt _ (by decide)) (by omega) (by omega)
  rw [this]
  congr 1
  omega
theorem parse_noughts (M : Nat) (l : List UInt8) : ∀ k, parseUintM M 0 (repeatL [48] k ++ l) = parseUintM M 0 l := by
 intro k
 induction k with
 | zero => simp [repeatL]
 | succ k ih =>
  simp only [repeatL, List.cons_append, List.nil_append, parseUintM]
  rw [if_pos (by decide), if_neg (by decide)]
  simpa using ih
theorem decDigits_ne (u : Nat) : decDigits u ≠ [] := by
 rw [decDigits]
 split <;> simp
theorem digits_head (u : Nat) : ∀ c ∈ decDigits u, 48 ≤ c.toNat ∧ c.toNat ≤ 57 := by
 induction u using Nat.strongRecOn with
 | _ u ih =>
  rw [decDigits]
  split
  · rename_i h
    intro c hc
    simp at hc
    subst hc
    simp
    omega
  rename_i h
  intro c hc
  rcases List.mem_append.1 hc with hc | hc
  · exact ih (u / 10) (by omega) c hc
  simp at hc
  subst hc
  simp
  omega
theorem noughts_mem (k : Nat) : ∀ c ∈ repeatL [48] k, c = 48 := by
 induction k with
 | zero => intro c hc; simp [repeatL] at hc
 | succ k ih =>
  intro c hc
  simp [repeatL] at hc
  rcases hc with rfl | hc
  · rfl
  exact ih c hc
theorem fst_nm {n : Int} (h0 : 0 ≤ n) (h1 : n ≤ 1073741824) : fst (nm n) = (n, true) := by
 have hn : nm n = 115 :: (repeatL [48] (10 - (itoa n).length) ++ itoa n) := by unfold nm; rw [if_pos ⟨h0, h1⟩]
 obtain ⟨u, rfl⟩ := Int.eq_ofNat_of_zero_le h0
 rw [itoa_nonneg] at hn
 generalize 10 - (decDigits u).length = k at hn
 have ht : trimPrefix (nm (u : Int)) [115] = repeatL [48] k ++ decDigits u := by
  rw [hn]; simp [trimPrefix, hasPrefix]
 have hp : parseUintM (2 ^ 64 - 1) 0 (repeatL [48] k ++ decDigits u) = .ok u := by
  rw [parse_noughts]; exact parse_digits _ 9 u (by omega) (by omega) (by omega)
 have hne : repeatL [48] k ++ decDigits u ≠ [] := by simp [decDigits_ne]
 have hp2 : parseIntB 64 (repeatL [48] k ++ decDigits u) = .ok (u : Int) := by
  obtain ⟨c, r, hcr⟩ : ∃ c r, repeatL [48] k ++ decDigits u = c :: r := by
   cases h : repeatL [48] k ++ decDigits u with
   | nil => exact absurd h hne
   | cons c r => exact ⟨c, r, rfl⟩
  have hc : 48 ≤ c.toNat ∧ c.toNat ≤ 57 := by
   have hm : c ∈ repeatL [48] k ++ decDigits u := by rw [hcr]; simp
   rcases List.mem_append.1 hm with hm | hm
   · rw [noughts_mem k c hm]; decide
   exact digits_head u c hm
  rw [hcr] at hp ⊢
  have e1 : parseUintB 64 (c :: r) = .ok u := by unfold parseUintB; rw [if_neg (by simp)]; exact hp
  unfold parseIntB
  simp only []
  rw [if_neg (by omega), e1]
  simp only []
  rw [if_neg (by omega), if_neg (by omega), if_neg (by omega)]
 unfold fst
 rw [ht, hp2]
 simp
theorem nm_no {n : Int} (h : ¬ (0 ≤ n ∧ n ≤ 1073741824)) : nm n = [] := by unfold nm; rw [if_neg h]
theorem fst_nil : fst [] = (0, false) := by
 unfold fst
 rw [show trimPrefix [] [115] = [] from rfl]
 rfl
theorem fst_yes {l : List UInt8} (h : (fst l).2 = true) : nm (fst l).1 = l := by
 unfold fst at *
 split at h
 · split at h
   · rename_i v _ hn; simp [hn]
   cases h
 cases h
theorem fst_no {l : List UInt8} (h : (fst l).2 = false) : (fst l).1 = 0 := by
 unfold fst at *
 split at h
 · split at h
   · cases h
   rename_i v _ hn; rw [if_neg hn]
 rfl
end Sgn
end
section
open Crc Frm
def magic : List Nat := [71, 79, 86, 49]
def hd0 (n : Nat) : List Nat := magic ++ be 4 n
def head (n : Nat) : List Nat := hd0 n ++ be 4 (more 0 (hd0 n))
theorem hd0_len (n : Nat) : (hd0 n).length = 8 := by simp [hd0, magic, be_len]
theorem head_len (n : Nat) : (head n).length = 12 := by simp [head, hd0_len, be_len]
theorem hd0_byte (n : Nat) : ∀ c ∈ hd0 n, c < 256 := by
 intro c hc
 rcases List.mem_append.1 hc with h | h
 · clear hc; revert c; decide
 exact be_byte _ _ c h
theorem head_byte (n : Nat) : ∀ c ∈ head n, c < 256 := by
 intro c hc
 rcases List.mem_append.1 hc with h | h
 · exact hd0_byte n c h
 exact be_byte _ _ c h
def hdo (n : Int) : List Nat := if 0 ≤ n ∧ n ≤ 1073741824 then head n.toNat else []
def rh (bs : List Nat) : Nat × Nat :=
 if bs.length < 12 then (0, 13)
 else if bs.take 4 ≠ magic then (0, 12)
 else if val ((bs.drop 8).take 4) ≠ more 0 (bs.take 8) then (0, 14)
 else if 1073741824 < val ((bs.drop 4).take 4) then (0, 12)
 else (val ((bs.drop 4).take 4), 0)
def rd (bs : List Nat) : Nat × List Fr × Nat × Nat :=
 if (rh bs).2 ≠ 0 then (0, [], 0, (rh bs).2) else ((rh bs).1, (scan (bs.drop 12) ((rh bs).1 : Int)).1, 12 + (scan (bs.drop 12) ((rh bs).1 : Int)).2, 0)
end
section
open Go.RowKit Go.Sort Go.Maps
open Crc Frm
open Sgn
structure Lg where
 segs : List Int
 next : Int
def lgLast (g : Lg) : List UInt8 := nm (g.segs.getLastD 0)
def St.has (t : St) (s : List UInt8) : Bool := (fat t.D s).isSome
def St.bytes (t : St) (s : List UInt8) : List Nat := ((fat t.D s).getD Fl.zero).bs
def thenSt (r : Int × St) (f : St → Int × St) : Int × St := if r.1 ≠ 0 then r else f r.2
def St.drop (t : St) (s : List UInt8) : Int × St := if t.has s = true then t.delete s else (0, t)
def delAll : List (List UInt8) → St → Int × St
 | [], t => (0, t)
 | s :: l, t => thenSt (t.delete s) (delAll l)
def delEach : List (List UInt8) → Int → St → Int × St
 | [], e, t => (e, t)
 | s :: l, e, t => delEach l (if e = 0 then (t.delete s).1 else e) (t.delete s).2
def lgTry (g : Lg) (t : St) (first : Int) : Int × St :=
 thenSt (thenSt (thenSt (t.drop (nm first)) fun t => t.write (nm first) (hdo first)) fun t => t.sync (nm first)) fun t => mSwap t (g.segs ++ [first])
def lgLay (g : Lg) (t : St) (first : Int) : Int × St × Lg :=
 let r := lgTry g t first
 if r.1 = 0 then (0, r.2, { g with segs := g.segs ++ [first] }) else if r.1 = 42 then (42, r.2, g) else (r.1, (r.2.delete (nm first)).2, g)
def lgFull (size : Nat) (g : Lg) (t : St) (more : Nat) : Bool := decide (g.segs.getLastD 0 < g.next) && decide (size < (t.bytes (lgLast g)).length + more)
def lgRoom (size : Nat) (g : Lg) (t : St) (more : Nat) : Int × St × Lg :=
 if lgFull size g t more = false then (0, t, g) else if 40 ≤ g.segs.length then (5, t, g) else
 let s := t.sync (lgLast g)
 if s.1 ≠ 0 then (s.1, s.2, g) else lgLay g s.2 g.next
def lgAppend (size : Nat) (g : Lg) (t : St) (kind : Int) (body : List Nat) : (Int × Int) × St × Lg :=
 let f : Fr := ⟨kind, g.next, body⟩
 if ¬ f.right then ((0, 1), t, g) else
 let r := lgRoom size g t (put f).length
 if r.1 ≠ 0 then ((0, r.1), r.2.1, r.2.2) else
 let v := r.2.1.write (lgLast r.2.2) (put f)
 if v.1 ≠ 0 then ((0, v.1), v.2, r.2.2) else ((g.next, 0), v.2, { r.2.2 with next := g.next + 1 })
def lgSync (g : Lg) (t : St) : Int × St := t.sync (lgLast g)
def lgGone (g : Lg) (seq : Int) : Nat := (g.segs.tail.takeWhile fun x => decide (x ≤ seq)).length
def lgRetain (g : Lg) (t : St) (seq : Int) : Int × St × Lg :=
 if lgGone g seq = 0 then (0, t, g) else
 let s := mSwap t (g.segs.drop (lgGone g seq))
 if s.1 ≠ 0 then (s.1, s.2, g) else
 let d := delEach ((g.segs.take (lgGone g seq)).map nm) 0 s.2
 (d.1, d.2, { g with segs := g.segs.drop (lgGone g seq) })
def lgFind (t : St) : List Int → Lg → Lg × Option (List Nat)
 | [], g => (g, none)
 | x :: l, g =>
  let b := t.bytes (nm x)
  let r := rd b
  if r.2.2.2 ≠ 0 ∨ (r.1 : Int) ≠ x ∨ ¬ (g.segs = [] ∨ x = g.next) then (g, none) else
  let g' : Lg := ⟨g.segs ++ [x], x + (r.2.1.length : Int)⟩
  if r.2.2.1 < b.length then (g', some (b.take r.2.2.1)) else lgFind t l g'
def lgStray (g : Lg) (names : List (List UInt8)) : List (List UInt8) := names.filter fun s => (fst s).2 && !g.segs.contains (fst s).1
def lgClean (g : Lg) (t : St) : Int × St := delAll (lgStray g (strKeys t.D)) t
def fxL : List UInt8 := [102, 105, 120, 46, 116, 109, 112]
def lgMend (g : Lg) (good : Option (List Nat)) (t : St) : Int × St :=
 match good with
 | none => (0, t)
 | some b => thenSt (thenSt (thenSt (t.drop fxL) fun t => t.write fxL b) fun t => t.sync fxL) fun t => t.rename fxL (lgLast g)
def lgRestore (t : St) : Int × St × Lg :=
 let l := (mLoad t).1
 let r := lgFind t l ⟨[], 0⟩
 if r.1.segs = [] then
  let c := lgClean r.1 t
  if c.1 ≠ 0 then (c.1, c.2, r.1) else lgLay r.1 c.2 0
 else
  let s := thenSt (thenSt (thenSt (if r.1.segs.length = l.length then (0, t) else mSwap t r.1.segs) (lgMend r.1 r.2)) (lgClean r.1)) (lgSync r.1)
  (s.1, s.2, r.1)
def lgOpen (size : Int) (t : St) : Int × St × Option Lg :=
 if size < 64 ∨ 65536 < size then (1, t, none) else
 let r := lgRestore t
 let s := thenSt (thenSt (r.1, r.2.1) fun t => t.drop fxL) fun t => t.drop nxL
 if s.1 ≠ 0 then (s.1, s.2, none) else (0, s.2, some r.2.2)
def lgFrames (g : Lg) (t : St) : List Fr := g.segs.flatMap fun x => (rd (t.bytes (nm x))).2.1
theorem drop_dead (t : St) (s : List UInt8) : (t.drop s).1 = 0 ∨ (t.drop s).1 = 42 := by
 unfold St.drop St.has
 cases h : fat t.D s with
 | none => exact .inl rfl
 | some f =>
  simp only [Option.isSome_some, if_true]
  unfold St.delete
  rw [h]
  by_cases h0 : t.fuse = 0
  · rw [if_pos h0]; exact .inr rfl
  rw [if_neg h0]; exact .inl rfl
end
section
open Go.RowKit
open Sgn
structure Laid (w : World) : Prop where
 tab : Lib.TabIs Tryz.prog w "internal/strconv.uint64pow10" .u64 Lib.pow10Tab
 syn : ∃ ev, w.cell? ⟨4, 0, none⟩ = some ev ∧ (ev = .nilIface ∨ ∃ te pe, ev = .iface te pe)
 rng : ∃ ev, w.cell? ⟨5, 0, none⟩ = some ev ∧ (ev = .nilIface ∨ ∃ te pe, ev = .iface te pe)
theorem Laid.on {w w' : World} (h : Laid w) (hb : Below w.heap.size w w') : Laid w' :=
 ⟨Lib.tabBelow_of_tabIs h.tab w' hb, by
  obtain ⟨ev, h1, h2⟩ := h.syn
  exact ⟨ev, (hb.cell (block_lt_of_cell h1)).trans h1, h2⟩, by
  obtain ⟨ev, h1, h2⟩ := h.rng
  exact ⟨ev, (hb.cell (block_lt_of_cell h1)).trans h1, h2⟩⟩
theorem ret_str {a b : ByteArray} (h : a = b) : Ending.returned (.string a) = .returned (.string b) := by rw [h]
theorem first_yes (n : Int) (h0 : 0 ≤ n) (h1 : n ≤ 1073741824) (w : World) : Calls Tryz.prog 101 #[.int .i64 n] w fun e w' => e = .returned (.bool true) ∧ w = w' := by
 have d0 : decide (0 ≤ n) = true := by simpa using h0
 have d1 : decide (n ≤ 1073741824) = true := by simpa using h1
 go_enter Tryz.func101, Tryz.ntmps101
 go_wp2
 go_ret
 exact ⟨rfl, rfl⟩
theorem first_no (n : Int) (h : ¬ (0 ≤ n ∧ n ≤ 1073741824)) (w : World) : Calls Tryz.prog 101 #[.int .i64 n] w fun e w' => e = .returned (.bool false) ∧ w = w' := by
 by_cases h0 : 0 ≤ n
 · have h1 : decide (n ≤ 1073741824) = false := by simp; omega
   have d0 : decide (0 ≤ n) = true := by simpa using h0
   clear h
   go_enter Tryz.func101, Tryz.ntmps101
   go_wp2
   go_ret
   exact ⟨rfl, rfl⟩
 have h1 : decide (0 ≤ n) = false := by simp; omega
 clear h h0
 go_enter Tryz.func101, Tryz.ntmps101
 go_wp2
 go_ret
 exact ⟨rfl, rfl⟩
theorem name_any (n : Int) (w : World) (hL : Laid w) : Calls Tryz.prog 54 #[.int .i64 n] w fun e w' => e = .returned (.string ⟨(nm n).toArray⟩) ∧ Below w.heap.size w w' := by
 by_cases h : 0 ≤ n ∧ n ≤ 1073741824
 · have hl := itoa_len h.1 h.2
   have Hn : Hid (nm n = 115 :: (Lib.repeatL [48] (10 - (Lib.itoa n).length) ++ Lib.itoa n)) := by show _ = _; unfold nm; rw [if_pos h]
   have FI := Qh (Tryz.strconv_FormatInt_10 n (by omega) (by omega) w hL.tab)
   have hi := Qh (first_yes n h.1 h.2)
   clear h hL
   generalize Lib.itoa n = l at hl Hn FI
   generalize nm n = r at Hn ⊢
   obtain ⟨k, hk⟩ : ∃ k, k = 10 - l.length := ⟨_, rfl⟩
   rw [← hk] at Hn
   have hkl : (k : Int) = 10 - (l.length : Int) := by omega
   have hk10 : k ≤ 10 := by omega
   have RP := Qh (fun w => Tryz.strings_Repeat ⟨#[48]⟩ k w (by omega) (by show 1 * k ≤ _; omega))
   have Hk := Qh hk
   clear hk
   go_enter Tryz.func54, Tryz.ntmps54
   go_wp2_with (first | (go_at_call 101; refine (hi.out _).mono ?_; rintro e w1 ⟨rfl, rfl⟩) | fail)
   refine FI.out.mono ?_
   rintro e w2 ⟨rfl, kk, os, hw2⟩
   have hB2 : Below w.heap.size w w2 := by rw [hw2]; exact Lib.below_grow _ w Qn kk os
   clear hw2 FI hi
   go_wp2_with fail
   rw [← hkl]
   refine (RP.out w2).mono ?_
   rintro e w3 ⟨rfl, hb3⟩
   have hB3 := hB2.trans (hb3.mono hB2.size)
   clear hkl hb3 RP
   have hrl := Lib.repeatL_length [48] k
   generalize Lib.repeatL [48] k = z at Hn hrl
   have hz : z.length ≤ 10 := by rw [hrl]; simp; omega
   clear hrl
   go_wp2
   go_ret
   exact ⟨ret_str (by rw [Hn.out]; apply ByteArray.ext; simp), hB3⟩
 rw [nm_no h]
 have hi := Qh (first_no n h)
 clear h hL
 go_enter Tryz.func54, Tryz.ntmps54
 go_wp2_with (first | (go_at_call 101; refine (hi.out _).mono ?_; rintro e w1 ⟨rfl, rfl⟩) | fail)
 go_ret
 exact ⟨rfl, Below.refl _ _⟩
theorem trim_le (l p : List UInt8) : (Lib.trimPrefix l p).length ≤ l.length := by
 unfold Lib.trimPrefix
 split
 · rw [List.length_drop]; omega
 exact Nat.le_refl _
theorem ba_eq (s : ByteArray) (l : List UInt8) (h : l = s.data.toList) : (⟨l.toArray⟩ : ByteArray) = s := by subst h; obtain ⟨⟨l⟩⟩ := s; rfl
theorem ba_ne (s : ByteArray) (l : List UInt8) (h : l ≠ s.data.toList) : (⟨l.toArray⟩ : ByteArray) ≠ s := by
 rintro rfl
 exact h rfl
theorem segFirst_any (s : ByteArray) (hs : s.size ≤ 140737488355328) (w : World) (hL : Laid w) : Calls Tryz.prog 188 #[.string s] w fun e w' =>
 e = .returned (.tuple #[.int .i64 (fst s.data.toList).1, .bool (fst s.data.toList).2]) ∧ Below w.heap.size w w' := by
 have TP := Qh (Tryz.strings_TrimPrefix s ⟨#[115]⟩)
 have hsz : (Lib.trimPrefix s.data.toList [115]).length ≤ 140737488355328 := Nat.le_trans (trim_le _ _) (by rw [← Lib.size_eq]; exact hs)
 have Hf : Hid (fst s.data.toList = match Lib.parseIntB 64 (Lib.trimPrefix s.data.toList [115]) with
  | .ok v => if nm v = s.data.toList then (v, true) else (0, false)
  | _ => (0, false)) := rfl
 have TP : Hid (∀ w, Calls Tryz.prog 212 #[.string s, .string ⟨#[115]⟩] w fun e w' => e = .returned (.string ⟨(Lib.trimPrefix s.data.toList [115]).toArray⟩) ∧ w = w') := fun w => (TP.out w).mono fun _ _ h => ⟨h.1, h.2.symm⟩
 generalize Lib.trimPrefix s.data.toList [115] = t at TP hsz Hf
 have hts : (⟨t.toArray⟩ : ByteArray).size ≤ 140737488355328 := hsz
 have HL := Qh hL
 clear hL hsz
 rcases hp : Lib.parseIntB 64 t with v | _ | _
 · have PI := Qh (fun w => Tryz.strconv_ParseInt_10_at64_ok ⟨t.toArray⟩ (by omega) v (by simpa using hp) w)
   have hf := Hf.out
   rw [hp] at hf
   simp only at hf
   clear Hf hp
   have NA := Qh (fun w hL => name_any v w hL)
   by_cases hn : nm v = s.data.toList
   · rw [if_pos hn] at hf
     rw [hf]
     have he := ba_eq s _ hn
     rw [he] at NA
     clear hf hn he
     go_enter Tryz.func188, Tryz.ntmps188
     go_wp2_with (first
      | (go_at_call 212; refine (TP.out _).mono ?_; rintro e w1 ⟨rfl, rfl⟩)
      | (go_at_call 211; refine (PI.out _).mono ?_; rintro e w2 ⟨rfl, hw2⟩; have hB2 : Below w.heap.size w w2 := (by rcases hw2 with rfl | ⟨z, rfl⟩ <;> first | exact Below.refl _ _ | exact Lib.bytesWorld_below _ _ _); clear hw2)
      | (go_at_call 54; refine (NA.out _ (HL.out.on hB2)).mono ?_; rintro e w3 ⟨rfl, hb3⟩))
     go_ret2
     exact ⟨rfl, hB2.trans (hb3.mono hB2.size)⟩
   rw [if_neg hn] at hf
   rw [hf]
   have he := ba_ne s _ hn
   obtain ⟨z, hz⟩ : ∃ z : ByteArray, z = ⟨(nm v).toArray⟩ := ⟨_, rfl⟩
   rw [← hz] at NA he
   have hq : (z.toList == s.toList) = false := by
    rw [beq_eq_false_iff_ne]; intro h; rw [ByteArray.toList_eq, ByteArray.toList_eq] at h; exact he (ByteArray.ext (Array.toList_inj.1 h))
   clear hf hn hz he
   go_enter Tryz.func188, Tryz.ntmps188
   go_wp2_with (first
    | (go_at_call 212; refine (TP.out _).mono ?_; rintro e w1 ⟨rfl, rfl⟩)
    | (go_at_call 211; refine (PI.out _).mono ?_; rintro e w2 ⟨rfl, hw2⟩; have hB2 : Below w.heap.size w w2 := (by rcases hw2 with rfl | ⟨z, rfl⟩ <;> first | exact Below.refl _ _ | exact Lib.bytesWorld_below _ _ _); clear hw2)
    | (go_at_call 54; refine (NA.out _ (HL.out.on hB2)).mono ?_; rintro e w3 ⟨rfl, hb3⟩))
   go_ret2
   exact ⟨rfl, hB2.trans (hb3.mono hB2.size)⟩
 · have hp' := hp
   have hf := Hf.out
   rw [hp] at hf
   simp only at hf
   rw [hf]
   clear Hf hp hf
   obtain ⟨ev, hev1, hev2⟩ := HL.out.syn
   have PI := Qh (Tryz.strconv_ParseInt_10_at64_syntax ⟨t.toArray⟩ (by omega) (hp'.trans rfl) ev w hev1 hev2)
   clear hev1 hev2 hp'
   go_enter Tryz.func188, Tryz.ntmps188
   go_wp2_with (first
    | (go_at_call 212; refine (TP.out _).mono ?_; rintro e w1 ⟨rfl, rfl⟩)
    | (go_at_call 211; refine PI.out.mono ?_; rintro e w2 ⟨N, rfl, _, _, hB2⟩))
   go_ret2
   exact ⟨rfl, hB2⟩
 have hp' := hp
 have hf := Hf.out
 rw [hp] at hf
 simp only at hf
 rw [hf]
 clear Hf hp hf
 obtain ⟨ev, hev1, hev2⟩ := HL.out.rng
 have PI := Qh (Tryz.strconv_ParseInt_10_at64_range ⟨t.toArray⟩ (by omega) hp' ev w hev1 hev2)
 clear hev1 hev2 hp'
 go_enter Tryz.func188, Tryz.ntmps188
 go_wp2_with (first
  | (go_at_call 212; refine (TP.out _).mono ?_; rintro e w1 ⟨rfl, rfl⟩)
  | (go_at_call 211; refine PI.out.mono ?_; rintro e w2 ⟨N, rfl, _, _, hB2⟩))
 go_ret2
 exact ⟨rfl, hB2⟩
end
section
open Go.RowKit
open Crc Frm
theorem ret_right_no (f : Fr) (h : ¬ (1 ≤ f.ty ∧ f.ty ≤ 15 ∧ 0 ≤ f.seq ∧ f.seq ≤ 1073741824)) : Ending.returned (.bool false) = .returned (.bool (decide f.right)) := by
 rw [decide_eq_false]
 unfold Fr.right
 omega
theorem ret_right_yes (f : Fr) (h : 1 ≤ f.ty ∧ f.ty ≤ 15 ∧ 0 ≤ f.seq ∧ f.seq ≤ 1073741824) : Ending.returned (.bool (decide ((f.body.length : Int) ≤ 1800))) = .returned (.bool (decide f.right)) := by
 refine ret_bool (decide_eq_decide.2 ?_)
 unfold Fr.right
 omega
theorem right_any (f : Fr) (a : Option Addr) (cap : Nat) (w : World) :
 Calls Tryz.prog 67 #[.agg #[.int .i64 f.ty, .int .i64 f.seq, .slice a f.body.length cap]] w fun e w' => e = .returned (.bool (decide f.right)) ∧ Below w.heap.size w w' := by
 obtain ⟨ty, seq, body⟩ := f
 go_enter Tryz.func67, Tryz.ntmps67
 go_wp2
 all_goals
  go_ret
  refine ⟨?_, Qb.alloc Qn _⟩
  first
   | (refine ret_right_yes ⟨ty, seq, body⟩ ?_; simp only; omega)
   | (refine ret_right_no ⟨ty, seq, body⟩ ?_; simp only; omega)
theorem right_of (f : Fr) (ty seq : Int) (len : Nat) (h1 : f.ty = ty) (h2 : f.seq = seq) (h3 : f.body.length = len) (a : Option Addr) (cap : Nat) (w : World) :
 Calls Tryz.prog 67 #[.agg #[.int .i64 ty, .int .i64 seq, .slice a len cap]] w fun e w' => e = .returned (.bool (decide f.right)) ∧ Below w.heap.size w w' := by
 subst h1 h2 h3
 exact right_any f a cap w
theorem or_byte (a c : Nat) (ha : a < 4294967296) (hc : c < 256) : bits .or .i64 ((a : Int) * 256) (c : Int) = ((a * 256 + c : Nat) : Int) := by
 rw [show (a : Int) * 256 = ((a * 256 : Nat) : Int) from by omega]
 have h1 : a * 256 ||| c = a * 256 + c := by
  have := Nat.two_pow_add_eq_or_of_lt (i := 8) (b := c) (by simpa using hc) a
  rw [show (2 : Nat) ^ 8 = 256 from rfl, Nat.mul_comm] at this
  exact this.symm
 have hx : a * 256 ||| c < 2 ^ 64 := by rw [h1]; omega
 show IntKind.i64.wrap ((BitVec.ofInt 64 ((a * 256 : Nat) : Int) ||| BitVec.ofInt 64 (c : Int)).toNat : Int) = _
 rw [BitVec.toNat_or, ofInt_u64 _ (by omega), ofInt_u64 _ (by omega), h1, IntKind.wrap_i64]
 omega
theorem next_any (size : Nat) (h4 : size ≤ 4) (gb ga : Nat) (hg : gb < ga) (a : Option Addr) (len cap : Nat) (bs : List Nat) (p : Nat) (w : World) (hb : w.heap[gb]? = some (.cells #[.slice a len cap] 38 (0, 0)))
 (ha : w.heap[ga]? = some (.cells #[.int .i64 (p : Int)] 3 (0, 0))) (hs : Sl w ga a len cap bs) (hfit : p + size ≤ len) :
 Calls Tryz.prog 228 #[.int .i64 (size : Int), .pointer (some ⟨gb, 0, none⟩), .pointer (some ⟨ga, 0, none⟩)] w fun e w' =>
  e = .returned (.int .i64 ((val ((bs.take (p + size)).drop p) : Nat) : Int)) ∧ w'.heap[ga]? = some (.cells #[.int .i64 ((p + size : Nat) : Int)] 3 (0, 0)) ∧ w.grownBy w' (some ga) := by
 have hle := hs.le
 have hmx := hs.max
 unfold maxLen at hmx
 go_enter Tryz.func228, Tryz.ntmps228
 go_wp2_with fail
 go_loopw [5, 7] (fun v i wr => ∃ k : Nat, k ≤ size ∧ i = .int .i64 (k : Int) ∧ v = .int .i64 ((val ((bs.take (p + k)).drop p) : Nat) : Int) ∧ wr.heap[ga]? = some (.cells #[.int .i64 ((p + k : Nat) : Int)] 3 (0, 0)) ∧ w.grownBy wr (some ga))
  (fun _ i _ => size - (intOf i).toNat)
 case atStart => exact ⟨0, by omega, rfl, by rw [Nat.add_zero, List.drop_of_length_le (by rw [List.length_take]; omega)]; rfl, ha, World.grownBy.refl _ _⟩
 case round =>
  obtain ⟨k, hk, rfl, rfl, hga, hB⟩ := hrel
  by_cases hlt : k < size
  · obtain ⟨b, o, rfl, hbl, hc⟩ := hs.at_ (by omega)
    have c1 := hB.cell (hc (p + k) (by omega)) (show some b ≠ some ga from fun h => by injection h with h; omega)
    have c2 := cell_of_one ((hB.block gb (lt_of_heap hb) (by simp; omega)).trans hb)
    have c3 := cell_of_one hga
    have f3 := free_of_one hga
    have hcb := hs.lt (k := p + k) (by omega)
    have hvl : val ((bs.take (p + k)).drop p) < 16777216 := by
     have h1 := val_lt ((bs.take (p + k)).drop p) (fun c hc => hs.byte c (List.mem_of_mem_take (List.mem_of_mem_drop hc)))
     have h2 : ((bs.take (p + k)).drop p).length ≤ 3 := by rw [List.length_drop, List.length_take]; omega
     have h3 := Nat.pow_le_pow_right (n := 256) (by decide) h2
     omega
    have hstep : val ((bs.take (p + (k + 1))).drop p) = val ((bs.take (p + k)).drop p) * 256 + bs.getD (p + k) 0 := by
     have hl := hs.length
     rw [← Nat.add_assoc, List.take_succ_eq_append_getElem (by omega), List.drop_append_of_le_length (by rw [List.length_take]; omega), val_snoc, List.getD_eq_getElem?_getD, List.getElem?_eq_getElem (by omega)]
     rfl
    have Hs := Qh hstep
    have Hg := Qh hga
    clear hstep hga hc
    generalize val ((bs.take (p + k)).drop p) = v at hvl Hs
    generalize bs.getD (p + k) 0 = c at c1 hcb Hs
    have ho := or_byte v c (by omega) hcb
    rw [show v * 256 + c = val ((bs.take (p + (k + 1))).drop p) from Hs.out.symm] at ho
    go_wp2
    refine ⟨⟨k + 1, by omega, by go_num, by first | rfl | rw [ho], ?_, hB.trans (grownBy_setCell _ _ _)⟩, by simp [intOf]; omega⟩
    have := one_setCell (u := .int .i64 ((p : Int) + (k : Int) + 1)) Hg.out
    rw [this]
    go_num
  have hk' : k = size := by omega
  subst hk'
  have Hg := Qh hga
  clear hga
  go_wp2
  go_ret
  exact ⟨rfl, Hg.out, hB⟩
end
section
open Go.RowKit
open Crc Frm
def offs (ns : List Nat) (j : Nat) : Nat := (ns.take j).sum
theorem offs_succ (ns : List Nat) (j : Nat) (h : j < ns.length) : offs ns (j + 1) = offs ns j + ns.getD j 0 := by
 unfold offs
 rw [List.take_succ_eq_append_getElem h, List.sum_append, List.getD_eq_getElem?_getD, List.getElem?_eq_getElem h]
 simp
theorem offs_le (ns : List Nat) : ∀ j, offs ns j ≤ ns.sum := by
 intro j
 unfold offs
 conv => rhs; rw [← List.take_append_drop j ns]
 rw [List.sum_append]
 omega
def numAt (bs ns : List Nat) (j : Nat) : Nat := val ((bs.take (offs ns j + ns.getD j 0)).drop (offs ns j))
theorem reader_any (a : Option Addr) (len cap : Nat) (w : World) :
 Calls Tryz.prog 220 #[.slice a len cap] w fun e w' =>
  e = .returned (.func (.func 228) #[] #[.pointer (some ⟨w.heap.size, 0, none⟩), .pointer (some ⟨w.heap.size + 1, 0, none⟩)]) ∧
  w' = (w.alloc (.cells #[.slice a len cap] 38)).alloc (.cells #[.int .i64 0] 3) := by
 have hmf : ∀ (fn : Fn) (first cap : Array Value) (w : World), (Instr.makeFunc fn first cap).run Tryz.prog w = .ok (.func fn first cap) w := fun _ _ _ _ => rfl
 go_enter Tryz.func220, Tryz.ntmps220
 go_wp2
 go_ret
 exact ⟨rfl, rfl⟩
theorem info_i64 : (Tryz.prog.info? 2).map (fun i => (i.zero, i.size, i.bytes)) = some (some (.int .i64 0), 1, 8) := by kernel_rfl
theorem fread_any (a : Option Addr) (len cap : Nat) (bs : List Nat) (sa : Option Addr) (n scap : Nat) (ns : List Nat) (w : World) (hs : Sl w w.heap.size a len cap bs) (hn : ns.length = n)
 (hr : Row w w.heap.size sa n scap 1 (fun j => .int .i64 ((ns.getD j 0 : Nat) : Int))) (h4 : ∀ x ∈ ns, x ≤ 4) (hfit : ns.sum ≤ len) (hn9 : n ≤ 9) :
 Calls Tryz.prog 201 #[.slice a len cap, .slice sa n scap] w fun e w' => ∃ g, e = .returned (.slice (some ⟨g, 0, none⟩) n n) ∧ w.heap.size ≤ g ∧
  (∀ j, j < n → w'.cell? ⟨g, j, none⟩ = some (.int .i64 ((numAt bs ns j : Nat) : Int))) ∧ Below w.heap.size w w' ∧ g < w'.heap.size := by
 go_enter Tryz.func201, Tryz.ntmps201
 go_wp2_with fail
 refine (reader_any a len cap _).mono ?_
 rintro e w1 ⟨rfl, rfl⟩
 obtain ⟨i8, hi8, hz0, hz1, hz2⟩ := info_parts info_i64
 have hB1 : Below w.heap.size w ((w.alloc (.cells #[.slice a len cap] 38)).alloc (.cells #[.int .i64 0] 3)) := (Qb.alloc Qn _).alloc (by simp) _
 have hgb : ((w.alloc (.cells #[.slice a len cap] 38)).alloc (.cells #[.int .i64 0] 3)).heap[w.heap.size]? = some (.cells #[.slice a len cap] 38 (0, 0)) := heap_alloc2_old _ _ _
 have hga : ((w.alloc (.cells #[.slice a len cap] 38)).alloc (.cells #[.int .i64 0] 3)).heap[w.heap.size + 1]? = some (.cells #[.int .i64 0] 3 (0, 0)) := heap_alloc2_new _ _ _
 have hsz : ((w.alloc (.cells #[.slice a len cap] 38)).alloc (.cells #[.int .i64 0] 3)).heap.size = w.heap.size + 2 := by simp
 obtain ⟨w2, hw2⟩ : ∃ w2, w2 = ((w.alloc (.cells #[.slice a len cap] 38)).alloc (.cells #[.int .i64 0] 3)) := ⟨_, rfl⟩
 rw [← hw2] at hB1 hgb hga hsz
 rw [← hw2]
 clear hw2
 go_wp2_with (at_make; refine wpList_make_full _ rfl (.tmp 12) (.tmp 12) 50 rfl w2.heap.size 2 i8 (.int .i64 0) 1 Tryz.underlying50 hi8 hz0 hz1 .i64 .i64 _ _ n rfl rfl rfl rfl (by rw [hz2]; omega) (by unfold maxLen; omega) Qn ?_; intro w3 hown hg)
 have hown1 := OwnV.made rfl hown
 have hB3 : Below w2.heap.size w2 w3 := Qb.grown hg Qn (fun k hk => by cases hk)
 have hz3 : w2.heap.size < w3.heap.size := hown1.base_.2
 have hgb3 := (hB3.block w.heap.size (by omega)).trans hgb
 have hga3 := (hB3.block (w.heap.size + 1) (by omega)).trans hga
 have hB03 : Below w.heap.size w w3 := hB1.trans (hB3.mono hB1.size)
 clear hown hg hgb hga hB3 hB1
 rw [hsz] at hown1 hz3
 try rw [hsz]
 clear hsz
 go_loopw [7, 8, 16] (fun _ _ i wr => ∃ (k : Nat) (us : List Value), k ≤ n ∧ i = .int .i64 (k : Int) ∧ us.length = n ∧ (∀ j, j < k → us[j]? = some (.int .i64 ((numAt bs ns j : Nat) : Int))) ∧
  OwnV wr (w.heap.size + 2) 2 (.slice (some ⟨w.heap.size + 2, 0, none⟩) n n) us ∧ wr.heap[w.heap.size]? = some (.cells #[.slice a len cap] 38 (0, 0)) ∧
  wr.heap[w.heap.size + 1]? = some (.cells #[.int .i64 ((offs ns k : Nat) : Int)] 3 (0, 0)) ∧ Below w.heap.size w wr) (fun _ _ i _ => n - (intOf i).toNat)
 case atStart => exact ⟨0, _, by omega, rfl, List.length_replicate, fun j hj => by omega, hown1, hgb3, hga3, hB03⟩
 case round =>
  obtain ⟨k, us, hk, rfl, hul, huj, how, hgb, hga, hB⟩ := hrel
  clear hown1 hgb3 hga3 hB03
  by_cases hlt : k < n
  · obtain ⟨b, o, rfl, hb, hc⟩ := hr.at_ (by omega)
    have c1 := (hB.cell (p := ⟨b, o + k, none⟩) hb).trans (hc k (by omega))
    have hs' := (hs.below hB Qn).more (B' := w.heap.size + 1) (by omega)
    have hnx := h4 (ns.getD k 0) (by rw [List.getD_eq_getElem?_getD, List.getElem?_eq_getElem (by omega)]; exact List.getElem_mem _)
    have hos := offs_succ ns k (by omega)
    have hol := offs_le ns (k + 1)
    have hkc := OwnV.cell how (k := k) (List.getElem?_eq_getElem (by omega))
    have Hn : Hid (numAt bs ns k = val ((bs.take (offs ns k + ns.getD k 0)).drop (offs ns k))) := rfl
    have i1 : (k : Int) < (n : Int) := by omega
    generalize ns.getD k 0 = x at c1 hnx hos Hn
    have hfit' : offs ns k + x ≤ len := by omega
    have Hos := Qh hos
    have K := Qh (next_any x hnx w.heap.size (w.heap.size + 1) (by omega) a len cap bs (offs ns k) wr hgb hga hs' hfit')
    have Hr := Qh (Qa huj (Qa how (Qa hgb hB)))
    clear hc hos hs' huj how hgb hga
    go_wp2_with fail
    refine K.out.mono ?_
    rintro e w4 ⟨rfl, hga4, hG⟩
    obtain ⟨huj, how, hgb, hB⟩ := Hr.out
    rw [← Hn.out]
    have how4 := how.kept hG (by simp)
    have hkc4 := OwnV.cell how4 (k := k) (List.getElem?_eq_getElem (by omega))
    have hgb4 := (hG.block w.heap.size (lt_of_heap hgb) (by simp)).trans hgb
    have hB4 := grownBy_below hB hG hB.size (by omega)
    rw [← Hos.out] at hga4
    have Hr4 := Qh (Qa huj (Qa how4 (Qa hgb4 (Qa hga4 hB4))))
    clear huj how hgb hB how4 hgb4 hga4 hB4 hkc Hr hG
    go_wp2
    obtain ⟨huj, how4, hgb4, hga4, hB4⟩ := Hr4.out
    refine ⟨⟨k + 1, us.set k (.int .i64 ((numAt bs ns k : Nat) : Int)), by omega, by go_num, by rw [List.length_set]; exact hul, ?_, how4.set_ k _, ?_, ?_, hB4.setCell (p := ⟨w.heap.size + 2, k, none⟩) (by show w.heap.size ≤ w.heap.size + 2; omega) _⟩, by simp [intOf]; omega⟩
    · intro j hj
      rw [List.getElem?_set]
      by_cases e : k = j
      · subst e; rw [if_pos rfl, if_pos (by omega)]
      rw [if_neg e]; exact huj j (by omega)
    · rw [Below.heap_setCell _ _ _ _ (by simp)]; exact hgb4
    rw [Below.heap_setCell _ _ _ _ (by simp)]; exact hga4
  have hk' : k = n := by omega
  subst hk'
  have Hr := Qh (Qa huj (Qa how hB))
  clear huj how hgb hga hB hr hs
  go_wp2
  go_ret
  obtain ⟨huj, how, hB⟩ := Hr.out
  exact ⟨_, rfl, by omega, fun j hj => (OwnV.cell how (huj j hj)).1, hB, how.base_.2⟩
end
section
open Go.RowKit
theorem clone_own (a : Option Addr) (len cap : Nat) (bs : List Nat) (w : World) (hs : Sl w w.heap.size a len cap bs) (hlen : len ≤ 140737488355328) :
 Calls Tryz.prog 202 #[.slice a len cap] w fun e w' => ∃ v, e = .returned v ∧ OwnB w' w.heap.size 5 v bs ∧ Below w.heap.size w w' := by
 have qT : ∀ (w : World) (a : Option Addr) (n c n' c' : Nat), (binOp .eql 38 (.slice a n c) (.slice none n' c')).run Tryz.prog w = .ok (.bool a.isNone) w := fun w a n c n' c' => Lib.run_eql_slice_nil w _ _ a n c n' c' Tryz.underlying38
 cases a with
 | none =>
  have hc0 := hs.none_ rfl
  have hl0 : len = 0 := by have := hs.le; omega
  subst hl0
  have hbs : bs = [] := List.eq_nil_of_length_eq_zero hs.length
  subst hbs
  go_enter Tryz.func202, Tryz.ntmps202
  go_wp2
  go_ret
  exact ⟨_, rfl, OwnB.nil_ _ _ _, Below.refl _ _⟩
 | some x =>
  have hl := hs.length
  have hown0 : OwnB (w.alloc (.cells #[] 5)) w.heap.size 5 (.slice (some ⟨w.heap.size, 0, none⟩) 0 0) [] := OwnB.lit _ [] Qn (by decide)
  have hs2 := hs.below ((Below.refl _ w).alloc Qn (.cells #[] 5)) Qn
  go_enter Tryz.func202, Tryz.ntmps202
  go_wp2_with (first | (at_builtin; refine wpList_append_sl rfl (.tmp 5) (.tmp 6) _ rfl w.heap.size _ Tryz.underlying38 info_u8 (.slice (some ⟨w.heap.size, 0, none⟩) 0 0) [] rfl hown0 _ (some x) len cap bs rfl hs2 (by simp; omega) (by simp) ?_; intro v1 w3 hown1 hg1 hat1))
  have hB3 : Below w.heap.size w w3 := ((Below.refl _ w).alloc Qn _).grown hg1 (by simp) (fun k hk => by simp [Value.ownBlock] at hk; omega)
  rw [List.nil_append] at hown1
  have H := Qh (Qa hown1 hB3)
  clear hg1 hat1 hown0 hown1 hB3
  go_wp2
  go_ret
  exact ⟨_, rfl, H.out⟩
theorem clone_any (a : Option Addr) (len cap : Nat) (bs : List Nat) (w : World) (hs : Sl w w.heap.size a len cap bs) (hlen : len ≤ 140737488355328) :
 Calls Tryz.prog 202 #[.slice a len cap] w fun e w' => ∃ ba bc, e = .returned (.slice ba len bc) ∧ Sl w' w'.heap.size ba len bc bs ∧ Below w.heap.size w w' ∧ ∀ b o, ba = some ⟨b, o, none⟩ → w.heap.size ≤ b :=
 (clone_own a len cap bs w hs hlen).mono fun e w' ⟨v, h1, h2, h3⟩ => by
  obtain ⟨a2, c2, hv, hs4, hbb⟩ := h2.sl_base hs.byte
  rw [hs.length] at hv hs4
  subst hv
  exact ⟨a2, c2, h1, hs4, h3, hbb⟩
end
section
open Go.RowKit
open Crc Frm
def flenOf (bs : List Nat) : Nat × Nat := if bs.length < 2 then (0, 13) else if 1800 < szOf bs then (0, 12) else if bs.length < szOf bs + 11 then (0, 13) else (szOf bs + 11, 0)
theorem sizes_row {w : World} {t : TypeId} {g n : Nat} {l : Array Value} {fr : Nat × Nat} {ns : List Nat} (h : w.heap[g]? = some (.cells l t fr)) (hn : ns.length = n) (hl : l = (ns.map fun (k : Nat) => Value.int .i64 (k : Int)).toArray) (hm : n ≤ maxLen) :
 Row w w.heap.size (some ⟨g, 0, none⟩) n n 1 (fun j => .int .i64 ((ns.getD j 0 : Nat) : Int)) :=
 Row.new h (fun j hj => by
  rw [hl, List.getElem?_toArray, List.getElem?_map, List.getElem?_eq_getElem (by omega), List.getD_eq_getElem?_getD, List.getElem?_eq_getElem (by omega)]; rfl) hm
theorem numAt_first (bs : List Nat) (k : Nat) : numAt bs [k] 0 = val (bs.take k) := by simp [numAt, offs]
theorem length_any (a : Option Addr) (len cap : Nat) (bs : List Nat) (w : World) (hs : Sl w w.heap.size a len cap bs) :
 Calls Tryz.prog 200 #[.slice a len cap] w fun e w' => e = .returned (.tuple #[.int .i64 (((flenOf bs).1 : Nat) : Int), .int .i64 (((flenOf bs).2 : Nat) : Int)]) ∧ Below w.heap.size w w' := by
 have hl := hs.length
 have hle := hs.le
 have hmx := hs.max
 unfold maxLen at hmx
 by_cases h2 : len < 2
 · have e : flenOf bs = (0, 13) := by unfold flenOf; rw [if_pos (by omega)]
   rw [e]
   have h2' : (len : Int) < 2 := by omega
   go_enter Tryz.func200, Tryz.ntmps200
   go_wp2
   go_ret2
   exact ⟨rfl, Below.refl _ _⟩
 have h2' : (2 : Int) ≤ (len : Int) := by omega
 have hv : szOf bs < 65536 := by
  have h1 := val_lt (bs.take 2) (fun c hc => hs.byte c (List.mem_of_mem_take hc))
  have h2 : (bs.take 2).length = 2 := by rw [List.length_take]; omega
  rw [h2] at h1
  exact h1
 have e : flenOf bs = if 1800 < szOf bs then (0, 12) else if len < szOf bs + 11 then (0, 13) else (szOf bs + 11, 0) := by unfold flenOf; rw [if_neg (by omega), hl]
 rcases hpq : flenOf bs with ⟨p, q⟩
 rw [hpq] at e
 clear hpq
 have He := Qh e
 have Hn : Hid (numAt bs [2] 0 = szOf bs) := numAt_first bs 2
 clear e
 generalize szOf bs = n at hv Hn He
 go_enter Tryz.func200, Tryz.ntmps200
 go_wp2_with fail
 refine (fread_any a len cap bs _ 1 1 [2] _ ((hs.below (Qb.alloc Qn _) Qn).more (by simp)) rfl (sizes_row (heap_alloc_new _ _) rfl rfl (by decide)) (by simp) (by simp; omega) (by decide)).mono ?_
 rintro e w1 ⟨g, rfl, hg, hc, hb1, hgl⟩
 have c0 := hc 0 (by decide)
 rw [Hn.out] at c0
 have hB : Below w.heap.size w w1 := (Qb.alloc Qn _).trans (hb1.mono (by simp))
 clear hc hb1
 by_cases h3 : 1800 < n
 · go_wp2
   go_ret2
   have h := He.out
   rw [if_pos h3] at h
   cases h
   exact ⟨rfl, hB⟩
 by_cases h4 : len < n + 11
 · have h4' : (len : Int) < (n : Int) + 11 := by omega
   go_wp2
   go_ret2
   have h := He.out
   rw [if_neg h3, if_pos h4] at h
   cases h
   exact ⟨rfl, hB⟩
 have h4' : (n : Int) + 11 ≤ (len : Int) := by omega
 go_wp2
 go_ret2
 have h := He.out
 rw [if_neg h3, if_neg h4] at h
 cases h
 exact ⟨ret_tup2 (by go_num) rfl, hB⟩
theorem results_row_tmp2 {P : Program} {fn : Func} {p u v : Tmp} {ty : TypeId} (h : fn.results = #[.cell p ty, .tmp u, .tmp v]) (tmps : Array Value) (w : World) (g : Nat) (t : TypeId) (cs : Array Value) (fr : Nat × Nat) (d : TypeDesc)
 (hp : tmps.getD p undef = .pointer (some ⟨g, 0, none⟩)) (hg : w.heap[g]? = some (.cells cs t fr))
 (hu : P.underlying ty = some d) (hd : (match d with | .struct _ | .array _ _ => true | _ => false) = true) (hi : (P.info? ty).map (·.size) = some cs.size) :
 (results fn tmps).run P w = .ok (.tuple #[.agg cs, tmps.getD u undef, tmps.getD v undef]) w := by
 have hp' : tmps[p]?.getD undef = .pointer (some ⟨g, 0, none⟩) := by simpa using hp
 simp [results, h, hp', asAddr, run_loadVar_row w g t ty cs fr d hg hu hd hi]
theorem read_from {B : Nat} {w0 : World} {a : Option Addr} {len cap : Nat} {bs : List Nat} (hB : B ≤ w0.heap.size) (hs : Sl w0 B a len cap bs) (n : Nat) (ns : List Nat) (hn : ns.length = n) (h4 : ∀ x ∈ ns, x ≤ 4) (hfit : ns.sum ≤ len) (hn9 : n ≤ 9)
 (g0 : Nat) (w : World) (hb : Below B w0 w) (hr : Row w w.heap.size (some ⟨g0, 0, none⟩) n n 1 (fun j => .int .i64 ((ns.getD j 0 : Nat) : Int))) :
 Calls Tryz.prog 201 #[.slice a len cap, .slice (some ⟨g0, 0, none⟩) n n] w fun e w' => ∃ g, e = .returned (.slice (some ⟨g, 0, none⟩) n n) ∧ w.heap.size ≤ g ∧
  (∀ j, j < n → w'.cell? ⟨g, j, none⟩ = some (.int .i64 ((numAt bs ns j : Nat) : Int))) ∧ Below B w0 w' ∧ g < w'.heap.size :=
 (fread_any a len cap bs (some ⟨g0, 0, none⟩) n n ns w ((hs.below hb Qn).more (Nat.le_trans hB hb.size)) hn hr h4 hfit hn9).mono fun _ _ ⟨g, he, h1, h2, h3, h5⟩ => ⟨g, he, h1, h2, hb.trans (h3.mono (Nat.le_trans hB hb.size)), h5⟩
theorem cell_far3 {w : World} {q : Addr} {b : Nat} {u v0 v1 v2 : Value} (h : w.cell? q = some u) (hne : q.block ≠ b) : (((w.setCell ⟨b, 0, none⟩ v0).setCell ⟨b, 1, none⟩ v1).setCell ⟨b, 2, none⟩ v2).cell? q = some u :=
 cell_set_far (p := ⟨b, 2, none⟩) (cell_set_far (p := ⟨b, 1, none⟩) (cell_set_far (p := ⟨b, 0, none⟩) h hne) hne) hne
theorem zero_cells : (#[Value.int .i64 0, .int .i64 0, .slice none 0 0].all fun x => x.oneCell') = true := by kernel_rfl
theorem get_of_len (bs : List Nat) (h : (flenOf bs).2 ≠ 0) : get bs = (Fr.zero, 0, (flenOf bs).2) := by
 unfold flenOf at *
 unfold Frm.get
 split at h
 · rename_i h1; rw [if_pos h1, if_pos h1]
 split at h
 · rename_i h1 h2; rw [if_neg h1, if_pos h2, if_neg h1, if_pos h2]
 split at h
 · rename_i h1 h2 h3; rw [if_neg h1, if_neg h2, if_pos h3, if_neg h1, if_neg h2, if_pos h3]
 exact absurd rfl h
theorem len_ok (bs : List Nat) (h : (flenOf bs).2 = 0) : flenOf bs = (szOf bs + 11, 0) ∧ szOf bs + 11 ≤ bs.length ∧ szOf bs ≤ 1800 ∧
 get bs = if val ((bs.take (szOf bs + 11)).drop (szOf bs + 7)) ≠ more 0 (bs.take (szOf bs + 7)) then (Fr.zero, 0, 14) else if ¬ (frOf bs).right then (Fr.zero, 0, 12) else (frOf bs, szOf bs + 11, 0) := by
 unfold flenOf at *
 unfold Frm.get
 split at h
 · cases h
 split at h
 · cases h
 split at h
 · cases h
 rename_i h1 h2 h3
 refine ⟨?_, by omega, by omega, ?_⟩
 · rw [if_neg h1, if_neg h2, if_neg h3]
 rw [if_neg h1, if_neg h2, if_neg h3]
theorem numAt_two (bs : List Nat) (h : 7 ≤ bs.length) : numAt bs [2, 1, 4] 1 = bs.getD 2 0 := by
 match bs, h with
 | a :: b :: c :: d :: e :: f :: g :: t, _ => simp [numAt, offs, val]
theorem numAt_three (bs : List Nat) : numAt bs [2, 1, 4] 2 = val ((bs.take 7).drop 3) := by simp [numAt, offs]
theorem get_any (a : Option Addr) (len cap : Nat) (bs : List Nat) (w : World) (hs : Sl w w.heap.size a len cap bs) :
 Calls Tryz.prog 165 #[.slice a len cap] w fun e w' => ∃ ba bc, e = .returned (.tuple #[.agg #[.int .i64 (get bs).1.ty, .int .i64 (get bs).1.seq, .slice ba (get bs).1.body.length bc], .int .i64 (((get bs).2.1 : Nat) : Int), .int .i64 (((get bs).2.2 : Nat) : Int)]) ∧
  Sl w' w'.heap.size ba (get bs).1.body.length bc (get bs).1.body ∧ Below w.heap.size w w' ∧ (∀ b o, ba = some ⟨b, o, none⟩ → w.heap.size ≤ b) := by
 have LA := Qh (length_any a len cap bs)
 by_cases hok : (flenOf bs).2 = 0
 · obtain ⟨hl, hlen, h18, hget⟩ := len_ok bs hok
   rw [hl] at LA
   have hbl := hs.length
   rw [hbl] at hlen
   have hle := hs.le
   have hmx := hs.max
   unfold maxLen at hmx
   have Hv : Hid (numAt ((bs.take (szOf bs + 11)).drop (szOf bs + 7)) [4] 0 = val ((bs.take (szOf bs + 11)).drop (szOf bs + 7))) := by
    show _ = _
    rw [numAt_first, List.take_of_length_le (by rw [List.length_drop, List.length_take]; omega)]
   have Hg := Qh hget
   clear hget hok hl
   have s1 := hs.take (k := szOf bs + 7) (by omega)
   have s2 := hs.mid (j := szOf bs + 7) (k := szOf bs + 11) (by omega) (by omega)
   have c1 := run_cut_to (P := Tryz.prog) 38 5 Tryz.underlying38 info_u8 a len cap (szOf bs + 7) (by omega)
   have c2 : ∀ w, (Instr.slice 38 (.slice a len cap) (some (.int .i64 ((szOf bs + 7 : Nat) : Int))) (some (.int .i64 ((szOf bs + 11 : Nat) : Int))) none).run Tryz.prog w = .ok (.slice (fromA a cap (szOf bs + 7)) (szOf bs + 11 - (szOf bs + 7)) (cap - (szOf bs + 7))) w :=
    run_cut_mid (P := Tryz.prog) 38 5 Tryz.underlying38 info_u8 a len cap (szOf bs + 7) (szOf bs + 11) (by omega) (by omega)
   rw [show ((szOf bs + 7 : Nat) : Int) = ((szOf bs + 11 : Nat) : Int) - 4 from by omega] at c1 c2
   have hq : szOf bs + 11 - (szOf bs + 7) = 4 := by omega
   rw [hq] at s2 c2
   obtain ⟨L, hL⟩ : ∃ L, L = szOf bs + 11 := ⟨_, rfl⟩
   rw [← hL] at c1 c2 LA hlen
   have h11 : 11 ≤ L := by omega
   have hL9 : L ≤ 1811 := by omega
   obtain ⟨q, hq7⟩ : ∃ q, q = szOf bs + 7 := ⟨_, rfl⟩
   rw [← hq7] at c1 c2 s1 s2 Hg Hv
   rw [← hL] at s2 Hg Hv
   generalize fromA a cap q = a2 at c2 s2
   generalize cap - q = k2 at c2 s2
   have Hq := Qh (Qa hL hq7)
   clear hL hq7 hq
   go_enter Tryz.func165, Tryz.ntmps165
   go_wp2_with fail
   refine (LA.out _ ((hs.below (Qb.alloc Qn _) Qn).more (by simp))).mono ?_
   rintro e w1 ⟨rfl, hb1⟩
   have hr1 := (hb1.block w.heap.size (by simp)).trans (heap_alloc_new _ _)
   have hB1 : Below w.heap.size w w1 := (Qb.alloc Qn _).trans (hb1.mono (by simp))
   clear hb1
   have hS := Below.refl w1.heap.size w1
   have hwr : IntKind.i64.wrap ((L : Int) - 4) = (L : Int) - 4 := by rw [IntKind.wrap_i64]; omega
   go_wp2
   go_region_held3 (fun w' => Below w1.heap.size w1 w') (first | assumption | exact Below.drew (by assumption)) (fail)
   have RD := Qh (read_from (a := a2) Qn ((s2.below hB1 Qn).more (B' := w1.heap.size) hB1.size) 1 [4] rfl (by simp) (by simp) (by decide))
   have S1 := Qh s1
   have HB := Qh (Qa hB1 hr1)
   clear hB1 hr1 s1 s2 hs hS
   go_wp2_with fail
   have hw32 : IntKind.i64.wrap ((more 0 (bs.take q) : Nat) : Int) = ((more 0 (bs.take q) : Nat) : Int) := by have := more_lt 0 (bs.take q); rw [IntKind.wrap_i64]; omega
   go_cut [37] from 11 (fun t wx => t = .bool (((val ((bs.take L).drop q) : Nat) : Int) != ((more 0 (bs.take q) : Nat) : Int)) ∧ Below w1.heap.size w1 wx)
   case first =>
    go_region_with (first
     | (go_at_call 201; refine (RD.out w1.heap.size _ (Below.drew (Below.drew (Qb.alloc Qn _))) (sizes_row (heap_alloc_new _ _) rfl rfl (by decide))).mono ?_; rintro e w2 ⟨g, rfl, hg, hc, hb2, hgl⟩; have c0 := hc 0 (by decide); rw [Hv.out] at c0; clear hc)
     | (go_at_call 123; refine (of_any a q cap _ _ ((S1.out.below (HB.out.1.trans (hb2.mono HB.out.1.size)) Qn).more (HB.out.1.trans (hb2.mono HB.out.1.size)).size)).mono ?_; rintro e w3 ⟨rfl, hb3⟩; have c0 := (hb3.cell hgl).trans c0))
    all_goals
     go_wp2_with fail
     go_meet
     case rel => exact ⟨by first | rfl | rw [hw32], hb2.trans (hb3.mono hb2.size)⟩
   case rest =>
    obtain ⟨rfl, hB3⟩ := hcut
    obtain ⟨hB1, hr1⟩ := HB.out
    have hBc : Below w.heap.size w wc := hB1.trans (hB3.mono hB1.size)
    have hwl := lt_of_heap hr1
    have hrc := (hB3.block w.heap.size hwl).trans hr1
    have Hrc := Qh (Qa hrc hBc)
    clear hB1 hr1 hrc hB3 HB RD hBc hw32
    by_cases hne : val ((bs.take L).drop q) = more 0 (bs.take q)
    · rw [if_neg (by simpa using hne)] at Hg
      rw [hne]
      clear hne
      have hq7 : 7 ≤ q := by have := Hq.out; omega
      have hq9 : q ≤ 1807 := by have := Hq.out; omega
      go_wp2_with fail
      refine (fread_any a q cap (bs.take q) _ 3 3 [2, 1, 4] _ (((S1.out.below Hrc.out.2 Qn).more Hrc.out.2.size).below (Qb.alloc Qn _) Qn |>.more (by simp)) rfl (sizes_row (heap_alloc_new _ _) rfl rfl (by decide)) (by simp) (by simp; omega) (by decide)).mono ?_
      rintro e w2 ⟨g, rfl, hg, hc, hb2, hgl⟩
      have b1 := hc 1 (by decide)
      have b2 := hc 2 (by decide)
      rw [numAt_two _ (by rw [List.length_take]; omega), List.getD_eq_getElem?_getD, List.getElem?_take_of_lt (by omega), ← List.getD_eq_getElem?_getD] at b1
      rw [numAt_three, List.take_take, Nat.min_eq_left hq7] at b2
      have hB2 : Below w.heap.size w w2 := (Hrc.out.2.alloc Hrc.out.2.size _).trans (hb2.mono (by have := Hrc.out.2.size; simp; omega))
      have hr2 := (hb2.block w.heap.size (by have := Hrc.out.2.size; have := lt_of_heap Hrc.out.1; simp; omega)).trans ((heap_alloc_old _ _ (lt_of_heap Hrc.out.1)).trans Hrc.out.1)
      obtain ⟨ty, hty⟩ : ∃ ty, ty = bs.getD 2 0 := ⟨_, rfl⟩
      obtain ⟨sq, hsq⟩ : ∃ sq, sq = val ((bs.take 7).drop 3) := ⟨_, rfl⟩
      rw [← hty] at b1
      rw [← hsq] at b2
      have Ht := Qh (Qa hty hsq)
      clear hty hsq
      have Hr2 := Qh (Qa hr2 hB2)
      have hgn : g ≠ w2.heap.size := by omega
      have s3 := ((S1.out.below hB2 Qn).more hB2.size).from_ hq7
      have c3 : ∀ w, (Instr.slice 38 (.slice a q cap) (some (.int .i64 (7 : Int))) none none).run Tryz.prog w = .ok (.slice (fromA a cap 7) (q - 7) (cap - 7)) w :=
       run_cut_from (P := Tryz.prog) 38 5 Tryz.underlying38 info_u8 a q cap 7 (by omega)
      generalize fromA a cap 7 = a3 at s3 c3
      generalize hn3 : q - 7 = n3 at s3 c3
      have Hn3 := Qh hn3
      generalize cap - 7 = k3 at s3 c3
      have CL := Qh (fun (w' : World) (hb : Below w2.heap.size w2 w') => clone_any a3 n3 k3 _ w' ((s3.below hb Qn).more hb.size) (by omega))
      clear hB2 hr2 hb2 hc s3 hn3
      go_wp2_with fail
      go_cut [10] from 11 (fun p wx => ∃ g2 ba bc, p = .pointer (some ⟨g2, 0, none⟩) ∧ wx.heap[g2]? = some (.cells #[.int .i64 (ty : Int), .int .i64 (sq : Int), .slice ba n3 bc] 69 (0, 0)) ∧ Sl wx wx.heap.size ba n3 bc ((bs.take q).drop 7) ∧ Below w2.heap.size w2 wx ∧ w2.heap.size ≤ g2 ∧ ∀ b o, ba = some ⟨b, o, none⟩ → w2.heap.size ≤ b)
      case first =>
       go_region_held3 (fun w' => w'.cell? ⟨g, 1, none⟩ = some (.int .i64 (ty : Int)) ∧ w'.cell? ⟨g, 2, none⟩ = some (.int .i64 (sq : Int)))
        (first | exact ⟨d1, d2⟩ | exact ⟨d1a _, d2a _⟩ | exact ⟨b1, b2⟩ | exact ⟨cell_far3 d1 hgn, cell_far3 d2 hgn⟩ | exact ⟨(World.cell?_alloc_past _ _ _ hgl).trans b1, (World.cell?_alloc_past _ _ _ hgl).trans b2⟩) (first
        | (go_at_call 202; refine (CL.out w2.drew (Below.drew Qb)).mono ?_; rintro e w4 ⟨ba, bc, rfl, hsc, hb4, hbb⟩; have d1 := (hb4.cell (p := ⟨g, 1, none⟩) hgl).trans b1; have d2 := (hb4.cell (p := ⟨g, 2, none⟩) hgl).trans b2; have hg4 : g < w4.heap.size := Nat.lt_of_lt_of_le hgl hb4.size; have d1a : ∀ o, (w4.alloc o).cell? ⟨g, 1, none⟩ = _ := fun o => (World.cell?_alloc_past _ _ _ hg4).trans d1; have d2a : ∀ o, (w4.alloc o).cell? ⟨g, 2, none⟩ = _ := fun o => (World.cell?_alloc_past _ _ _ hg4).trans d2)
        | (go_at_call 202; refine (CL.out _ (Below.drew (Qb.alloc Qn _))).mono ?_; rintro e w4 ⟨ba, bc, rfl, hsc, hb4, hbb⟩; have hblk := (hb4.block w2.heap.size (by simp)).trans (heap_alloc_new w2 _); have x0 := (cell_of_row w4 w2.heap.size 0 _ _ _ hblk).trans rfl; have x1 := (cell_of_row w4 w2.heap.size 1 _ _ _ hblk).trans rfl; have x2 := (cell_of_row w4 w2.heap.size 2 _ _ _ hblk).trans rfl; have y0 := frozen_of_row w4 w2.heap.size 0 _ _ hblk; have y1 := frozen_of_row w4 w2.heap.size 1 _ _ hblk; have y2 := frozen_of_row w4 w2.heap.size 2 _ _ hblk; have d1 := (hb4.cell (p := ⟨g, 1, none⟩) (by simp; omega)).trans ((World.cell?_alloc_past _ _ _ hgl).trans b1); have d2 := (hb4.cell (p := ⟨g, 2, none⟩) (by simp; omega)).trans ((World.cell?_alloc_past _ _ _ hgl).trans b2)))
       · go_wp2_with fail
         go_meet
         case rel => exact ⟨w4.heap.size, ba, bc, rfl, heap_alloc_new _ _, (hsc.below (Qb.alloc Qn _) Qn).more (by simp), (Below.drew Qb).trans hb4 |>.alloc hb4.size _, hb4.size, hbb⟩
       go_wp2_with fail
       go_meet
       case rel =>
        have hbn : 0 < n3 → ∀ b o, ba = some ⟨b, o, none⟩ → b ≠ w2.heap.size := fun _ b o h => by have := hbb b o h; simp at this; omega
        refine ⟨w2.heap.size, ba, bc, rfl, ?_, ?_, ?_, Nat.le_refl _, fun b o h => by have := hbb b o h; simp at this; omega⟩
        · exact heap_setCells_whole (cs := [Value.int .i64 0, .int .i64 0, .slice none 0 0]) [Value.int .i64 (ty : Int), .int .i64 (sq : Int), .slice ba n3 bc] rfl hblk
        · exact (((hsc.far ⟨w2.heap.size, 0, none⟩ _ hbn).far ⟨w2.heap.size, 1, none⟩ _ hbn).far ⟨w2.heap.size, 2, none⟩ _ hbn).more (by simp)
        exact (((((Qb.alloc Qn _).drew).trans (hb4.mono (by simp))).setCell (p := ⟨w2.heap.size, 0, none⟩) Qn _).setCell (p := ⟨w2.heap.size, 1, none⟩) Qn _).setCell (p := ⟨w2.heap.size, 2, none⟩) Qn _
      case rest =>
       obtain ⟨g2, ba, bc, rfl, hg2, hsc, hB4, hge, hbb⟩ := hcut
       obtain ⟨hr2, hB2⟩ := Hr2.out
       have hr4 := (hB4.block w.heap.size (lt_of_heap hr2)).trans hr2
       have hBw := hB2.trans (hB4.mono hB2.size)
       have Hr4 := Qh (Qa hr4 hBw)
       have Hs := Qh (Qa hsc hg2)
       have k0 := (cell_of_row wc g2 0 _ _ _ hg2).trans rfl
       have k1 := (cell_of_row wc g2 1 _ _ _ hg2).trans rfl
       have k2 := (cell_of_row wc g2 2 _ _ _ hg2).trans rfl
       have hf1 : (frOf bs).ty = (ty : Int) := by rw [Ht.out.1]; rfl
       have hf2 : (frOf bs).seq = (sq : Int) := by rw [Ht.out.2]; rfl
       have hfb : (frOf bs).body = (bs.take q).drop 7 := by rw [Hq.out.2]; rfl
       have hf3 : (frOf bs).body.length = n3 := by rw [hfb, hsc.length]
       have hgl2 := lt_of_heap hg2
       have hneq : g2 ≠ w.heap.size := by
        have := lt_of_heap hr2
        omega
       have Hbn : Hid (0 < n3 → ∀ b o, ba = some ⟨b, o, none⟩ → b ≠ w.heap.size) := fun _ b o h => by
        have := hbb b o h
        have := lt_of_heap hr2
        omega
       have Hbb : Hid (∀ b o, ba = some ⟨b, o, none⟩ → w.heap.size ≤ b) := fun b o h => by
        have := hbb b o h
        have := lt_of_heap hr2
        omega
       clear hbb
       have hrg := Qh (right_of (frOf bs) (ty : Int) (sq : Int) n3 hf1 hf2 hf3 ba bc)
       have Hf := Qh (Qa hf1 (Qa hf2 (Qa hf3 hfb)))
       clear hr2 hB2 hr4 hBw hB4 hsc Hr2 CL b1 b2 hf1 hf2 hf3 hfb hg2
       go_wp2_with fail
       refine (hrg.out _).mono ?_
       rintro e w5 ⟨rfl, hb5⟩
       have hg5 := (hb5.block g2 hgl2).trans Hs.out.2
       have hr5 := (hb5.block w.heap.size (lt_of_heap Hr4.out.1)).trans Hr4.out.1
       have hB5 := Hr4.out.2.trans (hb5.mono Hr4.out.2.size)
       have hs5 := (Hs.out.1.below hb5 Qn).more hb5.size
       have H5 := Qh (Qa hr5 (Qa hB5 hs5))
       clear hr5 hB5 hs5 k0 k1 k2 Hr4 Hs hb5
       by_cases hr : (frOf bs).right
       · rw [decide_eq_true hr]
         have k0 := (cell_of_row w5 g2 0 _ _ _ hg5).trans rfl
         have k1 := (cell_of_row w5 g2 1 _ _ _ hg5).trans rfl
         have k2 := (cell_of_row w5 g2 2 _ _ _ hg5).trans rfl
         have hone : (#[Value.int .i64 (ty : Int), .int .i64 (sq : Int), .slice ba n3 bc].all fun x => x.oneCell') = true := by kernel_rfl
         have hg := Hg.out
         rw [if_neg (by simpa using hr)] at hg
         have Hg' := Qh hg
         have Hone := Qh hone
         clear hg hone hg5 Hg
         go_wp2_with (first
          | (refine wpList_store_mid (by rfl) 69 (.tmp 2) (.tmp 56) (by rfl) w.heap.size 0 #[.int .i64 (ty : Int), .int .i64 (sq : Int), .slice ba n3 bc] (by rfl) (by rfl) (there_of_block H5.out.1 (by simp)) (by kernel_rfl) Hone.out ?_))
         have hw := heap_setCells_whole (cs := [Value.int .i64 0, .int .i64 0, .slice none 0 0]) [Value.int .i64 (ty : Int), .int .i64 (sq : Int), .slice ba n3 bc] rfl H5.out.1
         refine bodyPost_ret (results_row_tmp2 rfl _ _ w.heap.size _ _ _ _ rfl hw Tryz.underlying69 (by rfl) (by kernel_rfl)) (by rfl) ?_
         rw [Hg'.out]
         simp only []
         rw [Hf.out.1, Hf.out.2.1, Hf.out.2.2.1, Hf.out.2.2.2]
         exact ⟨ba, bc, ret_tup3 rfl (by show Value.int .i64 (L : Int) = _; rw [Hq.out.1]) rfl, (Sl.farCells _ Hbn.out _ _ H5.out.2.2).more (by rw [size_setCells]; exact Nat.le_refl _), below_setCells' _ Qn _ _ H5.out.2.1, Hbb.out⟩
       rw [decide_eq_false hr]
       have hg := Hg.out
       rw [if_pos (by simpa using hr)] at hg
       have Hg' := Qh hg
       clear hg hg5 Hg
       go_wp2_with (first
        | (refine wpList_store_mid (by rfl) 69 (.tmp 2) (.tmp 55) (by rfl) w.heap.size 0 #[.int .i64 0, .int .i64 0, .slice none 0 0] (by rfl) (by rfl) (there_of_block H5.out.1 (by simp)) (by kernel_rfl) zero_cells ?_))
       have hw := heap_setCells_whole (cs := [Value.int .i64 0, .int .i64 0, .slice none 0 0]) [Value.int .i64 0, .int .i64 0, .slice none 0 0] rfl H5.out.1
       refine bodyPost_ret (results_row_tmp2 rfl _ _ w.heap.size _ _ _ _ rfl hw Tryz.underlying69 (by rfl) (by kernel_rfl)) (by rfl) ?_
       rw [Hg'.out]
       exact ⟨none, 0, rfl, Sl.nil_, below_setCells' _ Qn _ _ H5.out.2.1, fun b o h => by cases h⟩
    have hne' : ((((val ((bs.take L).drop q) : Nat) : Int) != ((more 0 (bs.take q) : Nat) : Int))) = true := by simp; omega
    have hg := Hg.out
    rw [if_pos hne] at hg
    have Hg' := Qh hg
    clear hg
    go_wp2_with (first
     | (refine wpList_store_mid (by rfl) 69 (.tmp 2) (.tmp 38) (by rfl) w.heap.size 0 #[.int .i64 0, .int .i64 0, .slice none 0 0] (by rfl) (by rfl) (there_of_block Hrc.out.1 (by simp)) (by kernel_rfl) zero_cells ?_))
    have hw := heap_setCells_whole (cs := [Value.int .i64 0, .int .i64 0, .slice none 0 0]) [Value.int .i64 0, .int .i64 0, .slice none 0 0] rfl Hrc.out.1
    refine bodyPost_ret (results_row_tmp2 rfl _ _ w.heap.size _ _ _ _ rfl hw Tryz.underlying69 (by rfl) (by kernel_rfl)) (by rfl) ?_
    rw [Hg'.out]
    exact ⟨none, 0, rfl, Sl.nil_, below_setCells' _ Qn _ _ Hrc.out.2, fun b o h => by cases h⟩
 have hg := get_of_len bs hok
 rw [hg]
 generalize (flenOf bs).1 = z1 at LA
 generalize (flenOf bs).2 = z2 at LA hok
 have hne : (((z2 : Nat) : Int) != 0) = true := by simp; omega
 go_enter Tryz.func165, Tryz.ntmps165
 go_wp2_with fail
 refine (LA.out _ ((hs.below (Qb.alloc Qn _) Qn).more (by simp))).mono ?_
 rintro e w1 ⟨rfl, hb1⟩
 have hr1 := (hb1.block w.heap.size (by simp)).trans (heap_alloc_new _ _)
 have hB1 : Below w.heap.size w w1 := (Qb.alloc Qn _).trans (hb1.mono (by simp))
 clear hb1
 have Hr := Qh hr1
 clear hr1
 go_wp2_with (first
  | (refine wpList_store_mid (by rfl) 69 (.tmp 2) (.tmp 18) (by rfl) w.heap.size 0 #[.int .i64 0, .int .i64 0, .slice none 0 0] (by rfl) (by rfl) (there_of_block Hr.out (by simp)) (by kernel_rfl) zero_cells ?_))
 have hw := heap_setCells_whole (cs := [Value.int .i64 0, .int .i64 0, .slice none 0 0]) [Value.int .i64 0, .int .i64 0, .slice none 0 0] rfl Hr.out
 refine bodyPost_ret (results_row_tmp2 rfl _ _ w.heap.size _ _ _ _ rfl hw Tryz.underlying69 (by rfl) (by kernel_rfl)) (by rfl) ?_
 exact ⟨none, 0, rfl, Sl.nil_, below_setCells' _ Qn _ _ hB1, fun b o h => by cases h⟩
end
section
open Go.RowKit
open Frm
structure Frs (w : World) (B : Nat) (a : Option Addr) (len cap : Nat) (fs : List Fr) : Prop where
 length : fs.length = len
 le : len ≤ cap
 max : cap ≤ maxLen
 at_ : 0 < len → ∃ b o, a = some ⟨b, o, none⟩ ∧ b < B ∧ ∀ k f, fs[k]? = some f → ∃ ba bc, w.cell? ⟨b, o + k * 3, none⟩ = some (.int .i64 f.ty) ∧ w.cell? ⟨b, o + k * 3 + 1, none⟩ = some (.int .i64 f.seq) ∧
  w.cell? ⟨b, o + k * 3 + 2, none⟩ = some (.slice ba f.body.length bc) ∧ Sl w B ba f.body.length bc f.body
theorem Frs.below {w w' : World} {B B' : Nat} {a : Option Addr} {len cap : Nat} {fs : List Fr} (h : Frs w B a len cap fs) (hb : Below B' w w') (hB : B ≤ B') : Frs w' B' a len cap fs :=
 ⟨h.length, h.le, h.max, fun hp => by
  obtain ⟨b, o, e, hlt, hc⟩ := h.at_ hp
  refine ⟨b, o, e, by omega, fun k f hf => ?_⟩
  obtain ⟨ba, bc, h1, h2, h3, h4⟩ := hc k f hf
  exact ⟨ba, bc, (hb.cell (p := ⟨b, o + k * 3, none⟩) (by show b < B'; omega)).trans h1, (hb.cell (p := ⟨b, o + k * 3 + 1, none⟩) (by show b < B'; omega)).trans h2,
   (hb.cell (p := ⟨b, o + k * 3 + 2, none⟩) (by show b < B'; omega)).trans h3, (h4.below hb hB)⟩⟩
theorem Frs.nil_ {w : World} {B : Nat} : Frs w B none 0 0 [] := ⟨rfl, by omega, by simp [maxLen], fun h => absurd h (by omega)⟩
abbrev FC := Fr × Option Addr × Nat
def fcells (ts : List FC) : List Value := ts.flatMap fun t => [.int .i64 t.1.ty, .int .i64 t.1.seq, .slice t.2.1 t.1.body.length t.2.2]
theorem fcells_snoc (ts : List FC) (t : FC) : fcells (ts ++ [t]) = fcells ts ++ [.int .i64 t.1.ty, .int .i64 t.1.seq, .slice t.2.1 t.1.body.length t.2.2] := by simp [fcells]
theorem fcells_len (ts : List FC) : (fcells ts).length = ts.length * 3 := by
 induction ts with
 | nil => rfl
 | cons t ts ih =>
  show ([_, _, _] ++ fcells ts).length = _
  rw [List.length_append, ih]
  simp
  omega
theorem fcells_get : ∀ (ts : List FC) (k : Nat) (t : FC), ts[k]? = some t → (fcells ts)[k * 3]? = some (.int .i64 t.1.ty) ∧ (fcells ts)[k * 3 + 1]? = some (.int .i64 t.1.seq) ∧ (fcells ts)[k * 3 + 2]? = some (.slice t.2.1 t.1.body.length t.2.2) := by
 intro ts
 induction ts with
 | nil => intro k t h; simp at h
 | cons x ts ih =>
  intro k t h
  cases k with
  | zero =>
   simp at h
   subst h
   exact ⟨rfl, rfl, rfl⟩
  | succ k =>
   have := ih k t (by simpa using h)
   have e : ∀ j, (fcells (x :: ts))[j + 3]? = (fcells ts)[j]? := fun j => rfl
   rw [show (k + 1) * 3 = k * 3 + 3 from by omega, show k * 3 + 3 + 1 = k * 3 + 1 + 3 from by omega, show k * 3 + 3 + 2 = k * 3 + 2 + 3 from by omega, e, e, e]
   exact this
structure OwnF (w : World) (base : Nat) (v : Value) (ts : List FC) : Prop where
 own : w.ownsRow base 69 3 v ts.length (fcells ts)
 bodies : ∀ t ∈ ts, Sl w w.heap.size t.2.1 t.1.body.length t.2.2 t.1.body ∧ (0 < t.1.body.length → ∀ b o, t.2.1 = some ⟨b, o, none⟩ → some b ≠ v.ownBlock)
theorem OwnF.nil_ (w : World) (base : Nat) : OwnF w base (.slice none 0 0) [] := ⟨World.ownsRow_nil w base _ 3, by simp⟩
theorem OwnF.below {w w' : World} {base : Nat} {v : Value} {ts : List FC} (h : OwnF w base v ts) (hb : Below w.heap.size w w') : OwnF w' base v ts :=
 ⟨World.ownsRow.kept h.own (grown_of_below hb none) (by cases hv : v.ownBlock <;> simp), fun t ht => ⟨((h.bodies t ht).1.below hb Qn).more hb.size, (h.bodies t ht).2⟩⟩
theorem OwnF.frs {w : World} {base : Nat} {v : Value} {ts : List FC} (h : OwnF w base v ts) : ∃ a cap, v = .slice a ts.length cap ∧ Frs w w.heap.size a ts.length cap (ts.map (·.1)) := by
 rcases h.own.2 with ⟨rfl, h0⟩ | ⟨g, cap, cur, rfl, hb, hh, hn, hc, hsz, htk⟩
 · have : ts = [] := List.eq_nil_of_length_eq_zero h0
   subst this
   exact ⟨none, 0, rfl, Frs.nil_⟩
 refine ⟨_, cap, rfl, ⟨by simp, hn, hc, fun _ => ⟨g, 0, rfl, lt_of_heap hh, fun k f hf => ?_⟩⟩⟩
 rw [List.getElem?_map] at hf
 obtain ⟨t, ht, rfl⟩ := Option.map_eq_some_iff.1 hf
 have hk := (List.getElem?_eq_some_iff.1 ht).1
 obtain ⟨h1, h2, h3⟩ := fcells_get ts k t ht
 refine ⟨t.2.1, t.2.2, ?_, ?_, ?_, (h.bodies t (List.mem_of_getElem? ht)).1⟩
 · rw [Nat.zero_add, World.ownsRow.cellAt h.own (k * 3) (by omega), h1]
 · rw [Nat.zero_add, World.ownsRow.cellAt h.own (k * 3 + 1) (by omega), h2]
 rw [Nat.zero_add, World.ownsRow.cellAt h.own (k * 3 + 2) (by omega), h3]
theorem OwnF.at_base {w : World} {base : Nat} {v : Value} {ts : List FC} (h : OwnF w base v ts) {b : Nat} (hb : v.ownBlock = some b) : base ≤ b ∧ b < w.heap.size := by
 rcases h.own.2 with ⟨rfl, _⟩ | ⟨g, cap, cur, rfl, h2, h3, _⟩
 · cases hb
 injection hb with hb
 subst hb
 exact ⟨h2, lt_of_heap h3⟩
theorem OwnF.mono {w : World} {base base' : Nat} {v : Value} {ts : List FC} (h : OwnF w base v ts) (hb : base' ≤ base) : OwnF w base' v ts := by
 refine ⟨⟨h.own.1, ?_⟩, h.bodies⟩
 rcases h.own.2 with h1 | ⟨g, cap, cur, rfl, h2, h3⟩
 · exact .inl h1
 exact .inr ⟨g, cap, cur, rfl, Nat.le_trans hb h2, h3⟩
theorem info_frame : (Tryz.prog.info? 69).map (fun i => (i.zero, i.size, i.bytes)) = some (some (.agg #[.int .i64 0, .int .i64 0, .slice none 0 0]), 3, 40) := by kernel_rfl
theorem wpList_append_fr {w : World} {ops : Array Oper} {rest : List Oper} {o : Oper} {a : Act} {Q : Exit → Act → World → Prop} (hgd : o.guard = none) (s x : Operand)
 (ho : o.op = .call { callee := .builtin .append, args := #[s, x], argTypes := #[46, 46] })
 (base : Nat) (v : Value) (ts : List FC) (hs : a.eval s = v) (g : Nat) (t : FC) (hx : a.eval x = .slice (some ⟨g, 0, none⟩) 1 1)
 (hown : OwnF w base v ts) (hg : w.heap[g]? = some (.cells #[.int .i64 t.1.ty, .int .i64 t.1.seq, .slice t.2.1 t.1.body.length t.2.2] 69 (0, 0)))
 (hb : Sl w w.heap.size t.2.1 t.1.body.length t.2.2 t.1.body) (hbn : 0 < t.1.body.length → ∀ b o, t.2.1 = some ⟨b, o, none⟩ → some b ≠ v.ownBlock) (hn : ts.length ≤ 2000000) (hbase : base ≤ w.heap.size)
 (h : ∀ v' w', OwnF w' base v' (ts ++ [t]) → w.grownBy w' v.ownBlock → (v'.ownBlock = v.ownBlock ∨ v'.ownBlock = some w.heap.size) → wpList Tryz.prog ops Q rest (a.put o.dst v') w') :
 wpList Tryz.prog ops Q (o :: rest) a w := by
 obtain ⟨i, hi, hz0, hz1, hz2⟩ := info_parts info_frame
 refine wpList_append_own_at w hgd s x 46 ho base 69 i (.agg #[.int .i64 0, .int .i64 0, .slice none 0 0]) 3 40 Tryz.underlying46 hi hz0 hz1 hz2 rfl (by decide) v ts.length (fcells ts) hs hown.own ⟨g, 0, none⟩ 1 1 [.int .i64 t.1.ty, .int .i64 t.1.seq, .slice t.2.1 t.1.body.length t.2.2] hx rfl ?_ ?_ (by unfold maxLen; omega) (by omega) hbase ?_
 · intro j u hj
   have hj3 : j < 3 := (List.getElem?_eq_some_iff.1 hj).1
   rw [Addr.add_mid, Nat.zero_add, cell_of_row w g j _ _ _ hg, List.getElem?_toArray]
   exact hj
 · intro u hu
   simp at hu
   rcases hu with rfl | rfl | rfl <;> rfl
 intro v' w' h1 h2 _ h4
 refine h v' w' ⟨by rw [List.length_append, fcells_snoc]; exact h1, ?_⟩ h2 h4
 have key : ∀ (x : FC), (Sl w w.heap.size x.2.1 x.1.body.length x.2.2 x.1.body ∧ (0 < x.1.body.length → ∀ b o, x.2.1 = some ⟨b, o, none⟩ → some b ≠ v.ownBlock)) →
  Sl w' w'.heap.size x.2.1 x.1.body.length x.2.2 x.1.body ∧ (0 < x.1.body.length → ∀ b o, x.2.1 = some ⟨b, o, none⟩ → some b ≠ v'.ownBlock) := by
  rintro x ⟨hx, hne⟩
  refine ⟨(hx.kept h2 hne).more h2.size, fun hp b o e => ?_⟩
  rcases h4 with h4 | h4
  · rw [h4]; exact hne hp b o e
  rw [h4]
  obtain ⟨b', o', e', hlt, _⟩ := hx.at_ hp
  rw [e] at e'
  injection e' with e'
  injection e' with e'
  intro hx
  injection hx with hx
  omega
 intro x hx
 rcases List.mem_append.1 hx with hx | hx
 · exact key x (hown.bodies x hx)
 simp at hx
 subst hx
 exact key x ⟨hb, hbn⟩
theorem run_strs {w : World} {B : Nat} {a : Option Addr} {len cap : Nat} {bs : List Nat} (h : Sl w B a len cap bs) : ∀ n, (convert 38 9 (.slice a len cap)).run Tryz.prog (w.drewN n) = .ok (.string (strOf bs)) (w.drewN n) :=
 fun n => run_str (w := w.drewN n) (B := B) (show Sl (w.drewN n) B a len cap bs from ⟨h.length, h.le, h.max, h.byte, h.none_, h.at_⟩) 38 5 9 Tryz.underlying38 Tryz.underlying5 Tryz.underlying9
theorem below_drewN {B : Nat} {a w : World} {n : Nat} (h : Below B a w) : Below B a (w.drewN n) := ⟨h.os, h.tape, h.output, h.size, h.block⟩
theorem ne_toList {a b : ByteArray} (h : a ≠ b) : (a.toList == b.toList) = false := by
 rw [beq_eq_false_iff_ne]
 intro e
 rw [ByteArray.toList_eq, ByteArray.toList_eq] at e
 exact h (ByteArray.ext (Array.toList_inj.1 e))
theorem same_any (a : Option Addr) (la ca : Nat) (fs : List Fr) (b : Option Addr) (lb cb : Nat) (gs : List Fr) (w : World) (ha : Frs w w.heap.size a la ca fs) (hb : Frs w w.heap.size b lb cb gs) :
 Calls Tryz.prog 14 #[.slice a la ca, .slice b lb cb] w fun e w' => e = .returned (.bool (decide (fs = gs))) ∧ Below w.heap.size w w' := by
 have hla := ha.length
 have hlb := hb.length
 have hma := ha.le
 have hmx := ha.max
 unfold maxLen at hmx
 by_cases hl : la = lb
 · subst hl
   have hl' : ((la : Int) != (la : Int)) = false := by simp
   go_enter Tryz.func14, Tryz.ntmps14
   go_wp2_with fail
   go_loopw [5] (fun i wx => ∃ k : Nat, k ≤ la ∧ i = .int .i64 (k : Int) ∧ fs.take k = gs.take k ∧ Below w.heap.size w wx) (fun i _ => la - (intOf i).toNat)
   case atStart => exact ⟨0, by omega, rfl, by simp, Below.refl _ _⟩
   case round =>
    obtain ⟨k, hk, rfl, hpre, hB⟩ := hrel
    by_cases hlt : k < la
    · have hf : fs[k]? = some fs[k] := List.getElem?_eq_getElem (by omega)
      have hg : gs[k]? = some gs[k] := List.getElem?_eq_getElem (by omega)
      obtain ⟨b1, o1, rfl, hb1, hc1⟩ := (ha.below hB Qn).at_ (by omega)
      obtain ⟨b2, o2, rfl, hb2, hc2⟩ := (hb.below hB Qn).at_ (by omega)
      obtain ⟨ba1, bc1, x0, x1, x2, s1⟩ := hc1 k _ hf
      obtain ⟨ba2, bc2, y0, y1, y2, s2⟩ := hc2 k _ hg
      have e1 := run_strs s1
      have e2 := run_strs s2
      have p1 := s1.byte
      have p2 := s2.byte
      obtain ⟨f, hff⟩ : ∃ f, f = fs[k] := ⟨_, rfl⟩
      obtain ⟨g, hgg⟩ : ∃ g, g = gs[k] := ⟨_, rfl⟩
      rw [← hff] at hf x0 x1 x2 e1 p1
      rw [← hgg] at hg y0 y1 y2 e2 p2
      have i0 : (0 : Int) ≤ (k : Int) := by omega
      have i1 : (k : Int) < (la : Int) := by omega
      have H := Qh (Qa hf (Qa hg (Qa hpre hB)))
      clear hc1 hc2 s1 s2 hff hgg hf hg hpre hB
      obtain ⟨ft, hft⟩ : ∃ t, t = f.ty := ⟨_, rfl⟩
      obtain ⟨gt, hgt⟩ : ∃ t, t = g.ty := ⟨_, rfl⟩
      obtain ⟨fq, hfq⟩ : ∃ t, t = f.seq := ⟨_, rfl⟩
      obtain ⟨gq, hgq⟩ : ∃ t, t = g.seq := ⟨_, rfl⟩
      rw [← hft] at x0
      rw [← hgt] at y0
      rw [← hfq] at x1
      rw [← hgq] at y1
      have hstr := strOf_eq p1 p2
      obtain ⟨fs', hfs'⟩ : ∃ t, t = strOf f.body := ⟨_, rfl⟩
      obtain ⟨gs', hgs'⟩ : ∃ t, t = strOf g.body := ⟨_, rfl⟩
      rw [← hfs'] at e1 hstr
      rw [← hgs'] at e2 hstr
      have HE : Hid ((ft = gt ∧ fq = gq ∧ fs' = gs') ↔ f = g) := by
       rw [hft, hgt, hfq, hgq, hstr]
       constructor
       · rintro ⟨h1, h2, h3⟩
         cases f; cases g; simp_all
       rintro rfl; exact ⟨rfl, rfl, rfl⟩
      generalize f.body.length = lf at x2 e1
      generalize g.body.length = lg at y2 e2
      clear hft hgt hfq hgq hfs' hgs' hstr p1 p2
      have hno : Hid (¬ (ft = gt ∧ fq = gq ∧ fs' = gs') → decide (fs = gs) = false) := by
       intro hn
       refine decide_eq_false fun h => hn (HE.out.2 ?_)
       subst h
       have := H.out.1.symm.trans H.out.2.1
       injection this
      have hye : Hid ((ft = gt ∧ fq = gq ∧ fs' = gs') → fs.take (k + 1) = gs.take (k + 1)) := by
       intro h
       have h2 := HE.out.1 h
       rw [List.take_add_one, List.take_add_one, H.out.1, H.out.2.1, H.out.2.2.1, h2]
      by_cases q1 : ft = gt
      · by_cases q2 : fq = gq
        · by_cases q3 : fs' = gs'
          · have Hy := Qh (hye.out ⟨q1, q2, q3⟩)
            subst q1 q2 q3
            have r1 : (ft != ft) = false := by simp
            have r2 : (fq != fq) = false := by simp
            go_wp2_with fail
            go_quiet (fail)
            go_wp2_with fail
            go_roundw
            case rel => exact ⟨k + 1, by omega, by go_num, Hy.out, below_drewN H.out.2.2.2⟩
            case measure => simp [intOf]; omega
          have Hn := Qh (hno.out (fun h => q3 h.2.2))
          subst q1 q2
          have r1 : (ft != ft) = false := by simp
          have r2 : (fq != fq) = false := by simp
          have r3 := ne_toList q3
          go_wp2_with fail
          go_quiet (fail)
          go_wp2
          go_ret
          exact ⟨ret_bool Hn.out.symm, below_drewN H.out.2.2.2⟩
        have Hn := Qh (hno.out (fun h => q2 h.2.1))
        subst q1
        have r1 : (ft != ft) = false := by simp
        have r2 : (fq != gq) = true := by simp; exact q2
        go_wp2_with fail
        go_quiet (fail)
        go_wp2
        go_ret
        exact ⟨ret_bool Hn.out.symm, below_drewN H.out.2.2.2⟩
      have Hn := Qh (hno.out (fun h => q1 h.1))
      have r1 : (ft != gt) = true := by simp; exact q1
      go_wp2_with fail
      go_quiet (fail)
      go_wp2
      go_ret
      exact ⟨ret_bool Hn.out.symm, below_drewN H.out.2.2.2⟩
    have hkl : k = la := by omega
    subst hkl
    have he : fs = gs := by
     rw [List.take_of_length_le (by omega), List.take_of_length_le (by omega)] at hpre
     exact hpre
    have Ht := Qh (decide_eq_true he)
    clear hpre he
    go_wp2
    go_ret
    exact ⟨ret_bool Ht.out.symm, hB⟩
 have hne : fs ≠ gs := fun h => by subst h; omega
 have hn := decide_eq_false hne
 rw [hn]
 have hl' : ((la : Int) != (lb : Int)) = true := by simp; omega
 clear hn hne
 go_enter Tryz.func14, Tryz.ntmps14
 go_wp2
 go_ret
 exact ⟨rfl, Below.refl _ _⟩
end
section
open Go.RowKit
open Crc Frm
structure Scanned (bs : List Nat) (first : Int) (k : Nat) (ts : List FC) : Prop where
 le : ts.length ≤ k
 eq : scan bs first = (ts.map (·.1) ++ (scan (bs.drop k) (first + (ts.length : Int))).1, k + (scan (bs.drop k) (first + (ts.length : Int))).2)
 near : ts.length = 0 ∨ (0 ≤ first ∧ first + (ts.length : Int) ≤ 1073741825)
theorem Scanned.start (bs : List Nat) (first : Int) : Scanned bs first 0 [] := ⟨Nat.le_refl _, by simp, .inl rfl⟩
theorem Scanned.step {bs : List Nat} {first : Int} {k : Nat} {ts : List FC} (h : Scanned bs first k ts) (h0 : (get (bs.drop k)).2.2 = 0) (h1 : (get (bs.drop k)).1.seq = first + (ts.length : Int)) (ba : Option Addr) (bc : Nat) :
 Scanned bs first (k + (get (bs.drop k)).2.1) (ts ++ [((get (bs.drop k)).1, ba, bc)]) := by
 obtain ⟨hr, hg, hl, _, _⟩ := get_ok _ h0
 have hn : (get (bs.drop k)).2.1 = szOf (bs.drop k) + 11 := by rw [hg]
 have hsq : (get (bs.drop k)).1 = frOf (bs.drop k) := by rw [hg]
 have e := scan_step (bs.drop k) (first + (ts.length : Int)) h0 h1
 have hd : (bs.drop k).drop (get (bs.drop k)).2.1 = bs.drop (k + (get (bs.drop k)).2.1) := by rw [List.drop_drop]
 rw [hd] at e
 have hl1 : first + (((ts ++ [((get (bs.drop k)).1, ba, bc)]).length : Nat) : Int) = first + (ts.length : Int) + 1 := by rw [List.length_append]; simp; omega
 have hle := h.le
 refine ⟨by rw [List.length_append, hn]; simp; omega, ?_, ?_⟩
 · rw [hl1, h.eq, e]
   simp
   omega
 right
 rw [hsq] at h1
 have h2 := hr.2.2.1
 have h3 := hr.2.2.2.1
 rw [h1] at h2 h3
 rw [hl1]
 rcases h.near with h4 | h4
 · rw [h4] at h2 h3 ⊢; simp at h2 h3 ⊢; omega
 omega
theorem Scanned.stop {bs : List Nat} {first : Int} {k : Nat} {ts : List FC} (h : Scanned bs first k ts) (hno : ¬ ((get (bs.drop k)).2.2 = 0 ∧ (get (bs.drop k)).1.seq = first + (ts.length : Int))) :
 ts.map (·.1) = (scan bs first).1 ∧ k = (scan bs first).2 := by
 rw [h.eq, scan_stop _ _ hno]
 simp
theorem num_i64 {a b : Nat} (h : a = b) : Value.int .i64 (a : Int) = .int .i64 (b : Int) := by rw [h]
def BB (base : Nat) (ts : List FC) : Prop := ∀ t ∈ ts, ∀ b o, t.2.1 = some ⟨b, o, none⟩ → base ≤ b
theorem scan_anyB (a : Option Addr) (len cap : Nat) (bs : List Nat) (first : Int) (w : World) (hs : Sl w w.heap.size a len cap bs) (hlen : len ≤ 1100000) (hf0 : -9223372036854775808 ≤ first) (hf1 : first < 9223372036854775808) :
 Calls Tryz.prog 105 #[.slice a len cap, .int .i64 first] w fun e w' => ∃ v ts, e = .returned (.tuple #[v, .int .i64 (((scan bs first).2 : Nat) : Int)]) ∧ OwnF w' w.heap.size v ts ∧ ts.map (·.1) = (scan bs first).1 ∧ Below w.heap.size w w' ∧ BB w.heap.size ts := by
 have hle := hs.le
 have hmx := hs.max
 unfold maxLen at hmx
 have hbl := hs.length
 go_enter Tryz.func105, Tryz.ntmps105
 go_wp2_with fail
 go_loopw [6, 7] (fun u at' wx => ∃ (k : Nat) (au : Option Addr) (cu : Nat) (ts : List FC), k ≤ len ∧ at' = .int .i64 (k : Int) ∧ u = .slice au ts.length cu ∧ OwnF wx w.heap.size (.slice au ts.length cu) ts ∧ Scanned bs first k ts ∧ Below w.heap.size w wx ∧ BB w.heap.size ts) (fun _ i _ => len - (intOf i).toNat)
 case atStart => exact ⟨0, none, 0, [], by omega, rfl, rfl, OwnF.nil_ _ _, Scanned.start _ _, Below.refl _ _, fun t ht => by cases ht⟩
 case round =>
  obtain ⟨k, au, cu, ts, hk, rfl, rfl, ho, hsc, hB, hBB⟩ := hrel
  have HBB := Qh hBB
  clear hBB
  have hs1 := ((hs.below hB Qn).more hB.size).from_ hk
  have c1 : ∀ w, (Instr.slice 38 (.slice a len cap) (some (.int .i64 (k : Int))) none none).run Tryz.prog w = .ok (.slice (fromA a cap k) (len - k) (cap - k)) w :=
   run_cut_from (P := Tryz.prog) 38 5 Tryz.underlying38 info_u8 a len cap k hk
  generalize fromA a cap k = a2 at c1 hs1
  generalize hl2 : len - k = l2 at c1 hs1
  generalize cap - k = k2 at c1 hs1
  have G := Qh (get_any a2 l2 k2 _ wr hs1)
  have Hsc := Qh hsc
  have hst := fun h0 h1 => Qh (hsc.step h0 h1)
  have hsp := fun hno => Qh (hsc.stop hno)
  have htl := hsc.le
  have hwrap : IntKind.i64.wrap (first + (ts.length : Int)) = first + (ts.length : Int) := by
   rw [IntKind.wrap_i64]
   rcases hsc.near with h | ⟨h1, h2⟩
   · rw [h]; omega
   omega
  have hge : ∀ h0 : (get (bs.drop k)).2.2 = 0, 11 ≤ (get (bs.drop k)).2.1 ∧ (get (bs.drop k)).2.1 ≤ l2 := fun h0 => by
   obtain ⟨_, hg, hl, _, _⟩ := get_ok _ h0
   rw [hg]
   rw [List.length_drop] at hl
   simp only
   omega
  have HB9 := Qh hB.size
  have Ho := Qh (Qa ho hB)
  clear hsc hs1 ho hB
  go_wp2_with fail
  refine G.out.mono ?_
  rintro e w2 ⟨ba, bc, rfl, hsb, hb2, hbb⟩
  obtain ⟨ho, hB⟩ := Ho.out
  have ho2 := ho.below hb2
  have hB2 := hB.trans (hb2.mono hB.size)
  have hbn : ∀ q, (Value.slice au ts.length cu).ownBlock = some q → q < wr.heap.size := fun q hq => (ho.at_base hq).2
  have hsz := hb2.size
  have H2 := Qh (Qa ho2 (Qa hB2 (Qa hsb hbb)))
  generalize hgt : get (bs.drop k) = G3 at *
  obtain ⟨f, n, er⟩ := G3
  simp only at *
  clear ho2 hB2 hsb hbb hb2 ho hB G Ho
  by_cases h0 : er = 0
  · by_cases h1 : f.seq = first + (ts.length : Int)
    · have Hst := Qh ((hst h0 h1).out ba bc)
      obtain ⟨hn11, hnl⟩ := hge h0
      clear hst hsp hge
      subst h0
      have r1 : (f.seq != first + (ts.length : Int)) = false := by simp; omega
      clear h1
      have hbn2 : 0 < f.body.length → ∀ b o, ba = some ⟨b, o, none⟩ → some b ≠ (Value.slice au ts.length cu).ownBlock := fun _ b o e h => by
       have h1 := H2.out.2.2.2 b o e
       have h2 := hbn b h.symm
       omega
      have hoa : ∀ o1 o2, OwnF ((w2.alloc o1).alloc o2) w.heap.size (.slice au ts.length cu) ts := fun o1 o2 => H2.out.1.below ((Qb.alloc Qn _).alloc (by simp) _)
      have hsa : ∀ o1 o2, Sl ((w2.alloc o1).alloc o2) ((w2.alloc o1).alloc o2).heap.size ba f.body.length bc f.body := fun o1 o2 => (H2.out.2.2.1.below ((Qb.alloc Qn _).alloc (by simp) _) Qn).more (by simp; omega)
      have Hoa := Qh (Qa hoa hsa)
      have hwl : w.heap.size ≤ w2.heap.size := H2.out.2.1.size
      clear hoa hsa
      go_wp2_with (at_builtin; refine wpList_append_fr rfl (.tmp 32) (.tmp 34) rfl w.heap.size (.slice au ts.length cu) ts rfl (w2.heap.size + 1) (f, ba, bc) (by first | rfl | simp) (Hoa.out.1 _ _) (heap_alloc2_new _ _ _) (Hoa.out.2 _ _) hbn2 (by omega) (by simp; omega) ?_; intro v3 w3 ho3 hg3 hat3)
      have hB3 : Below w.heap.size w w3 := ((H2.out.2.1.alloc hwl _).alloc (by simp; omega) _).grown hg3 (by simp; omega) (fun q hq => (H2.out.1.at_base hq).1)
      obtain ⟨a3, c3, hv3, _⟩ := ho3.frs
      subst hv3
      have H3 := Qh (Qa ho3 hB3)
      clear ho3 hg3 hat3 hB3
      go_wp2
      refine ⟨⟨k + n, a3, c3, _, by omega, by go_num, rfl, H3.out.1, Hst.out, H3.out.2, fun t ht b o e => ?_⟩, by simp [intOf]; omega⟩
      rcases List.mem_append.1 ht with ht | ht
      · exact HBB.out t ht b o e
      rw [List.mem_singleton] at ht
      subst ht
      exact Nat.le_trans HB9.out (H2.out.2.2.2 b o e)
    have Hsp := hsp (by rintro ⟨_, h⟩; exact h1 h)
    clear hst hsp hge
    subst h0
    have r1 : (f.seq != first + (ts.length : Int)) = true := by simp; omega
    go_wp2
    go_ret2
    exact ⟨_, ts, ret_tup2 rfl (num_i64 Hsp.out.2), H2.out.1.below (Qb.alloc Qn _), Hsp.out.1, H2.out.2.1.alloc H2.out.2.1.size _, HBB.out⟩
  have Hsp := hsp (by rintro ⟨h, _⟩; exact h0 h)
  clear hst hsp hge
  have r0 : ((er : Int) != 0) = true := by simp; omega
  go_wp2
  go_ret2
  exact ⟨_, ts, ret_tup2 rfl (num_i64 Hsp.out.2), H2.out.1.below (Qb.alloc Qn _), Hsp.out.1, H2.out.2.1.alloc H2.out.2.1.size _, HBB.out⟩
end
section
open Go.RowKit
theorem wpList_append_full {P : Program} {w : World} {ops : Array Oper} {rest : List Oper} {o : Oper} {a : Act} {Q : Exit → Act → World → Prop} (hgd : o.guard = none) (s x : Operand) (t : TypeId)
 (ho : o.op = .call { callee := .builtin .append, args := #[s, x], argTypes := #[t, t] })
 (e : TypeId) (ht : P.underlying t = some (.slice e)) (hi : (P.info? e).map (fun i => (i.zero, i.size, i.bytes)) = some (some (.int .u8 0), 1, 1))
 (B : Nat) (A : Addr) (n : Nat) (bs : List Nat) (hs : a.eval s = .slice (some A) n n) (hb : Sl w B (some A) n n bs)
 (B' : Nat) (A' : Addr) (m c : Nat) (cs : List Nat) (hx : a.eval x = .slice (some A') m c) (hc : Sl w B' (some A') m c cs)
 (hm : 0 < m) (hbytes : n + m ≤ 140737488355328)
 (h : ∀ v' w', OwnB w' w.heap.size e v' (bs ++ cs) → Below w.heap.size w w' → wpList P ops Q rest (a.put o.dst v') w') :
 wpList P ops Q (o :: rest) a w := by
 obtain ⟨i, hi, hz0, hz1, hz2⟩ := info_parts hi
 refine wpList_plain hgd fun K hK => ?_
 have hln := hb.length
 have hlm := hc.length
 have hr := run_append_grow (P := P) (w := w) t o.type e i (.int .u8 0) ht hi hz0 A n n (bs.map bv) (by rw [List.length_map, hln, hz1]; omega) hb.news A' m c (cs.map bv) (by rw [List.length_map, hlm, hz1]; omega) hc.news (by omega) (by omega) (growslice_fits (by omega) (by rw [hz2]; omega))
 unfold Oper.wp execOp
 simp only [ho, resolve, invoke, builtin, Sem.run_bind, Sem.run_pure, Result.andThen_ok, List.map_toArray, List.map_cons, List.map_nil, hs, hx, hr]
 refine hK _ _ (h _ _ ?_ ((Below.drew Qb).alloc Qn _))
 have hlen : (bs ++ cs).length = n + m := by rw [List.length_append, hln, hlm]
 have hge := grownCap_ge w (n + m) n e
 have hcm : grownCap w (n + m) n e ≤ maxLen := grownCap_le_maxLen w (n + m) n e (by unfold maxLen; omega)
 unfold OwnB
 rw [hlen]
 refine ⟨by rw [List.length_map, hlen]; omega, .inr ⟨w.heap.size, _, _, rfl, Nat.le_refl _, heap_alloc_new w.drew _, hge, hcm, ?_, ?_⟩⟩
 · simp only [Array.size_append, List.size_toArray, size_zeroCells, List.length_map, hln, hlm]
   simp [Value.cells]
   omega
 simp only [Array.toList_append, List.append_assoc]
 rw [← List.append_assoc, ← List.map_append, Nat.mul_one]
 rw [← hlen, show (bs ++ cs).length = ((bs ++ cs).map bv).length from (List.length_map _).symm]
 exact List.take_left
end
section
open Go.RowKit
open Crc Frm
theorem be4_cells (n : Nat) (hn : n < 4294967296) : (#[Value.int .u8 ((n : Int) / 16777216), .int .u8 ((n : Int) / 65536 % 256), .int .u8 ((n : Int) / 256 % 256), .int .u8 ((n : Int) % 256)] : Array Value) = ((be 4 n).map fun c => Value.int .u8 ((c : Nat) : Int)).toArray := by
 have e0 : (n : Int) / 16777216 = (((n / 256 ^ 3 % 256 : Nat)) : Int) := by omega
 have e1 : (n : Int) / 65536 % 256 = (((n / 256 ^ 2 % 256 : Nat)) : Int) := by omega
 have e2 : (n : Int) / 256 % 256 = (((n / 256 ^ 1 % 256 : Nat)) : Int) := by omega
 have e3 : (n : Int) % 256 = (((n / 256 ^ 0 % 256 : Nat)) : Int) := by omega
 rw [e0, e1, e2, e3]
 rfl
theorem swrite_any (v : Value) (bs : List Nat) (base n : Nat) (hn : n < 4294967296) (w : World) (ho : OwnB w base 5 v bs) (hb : base ≤ w.heap.size) (hlen : bs.length ≤ 1000) :
 Calls Tryz.prog 190 #[v, .int .u32 (n : Int)] w fun e w' => ∃ v', e = .returned v' ∧ OwnB w' base 5 v' (bs ++ be 4 n) ∧ Below base w w' := by
 go_enter Tryz.func190, Tryz.ntmps190
 go_wp2_with (at_builtin; refine wpList_append_sl rfl (.tmp 5) (.tmp 17) _ rfl base _ Tryz.underlying38 info_u8 v bs rfl (ho.alloc _) _ (some ⟨w.heap.size, 0, none⟩) 4 4 (be 4 n) rfl (Sl.new (heap_alloc_new w _) (by rw [be4_cells n hn]) (be_byte 4 n) 4 rfl (by rw [be_len]; decide)) (by omega) (by simp; omega) ?_; intro v1 w1 ho1 hg1 hat1)
 go_ret
 exact ⟨_, rfl, ho1, (Qb.alloc hb _).grown hg1 (by simp; omega) (fun k hk => (ho.at_base hk).1)⟩
theorem swrite_full (A : Addr) (m : Nat) (bs : List Nat) (n : Nat) (hn : n < 4294967296) (w : World) (hs : Sl w w.heap.size (some A) m m bs) (hm : m ≤ 1000) :
 Calls Tryz.prog 190 #[.slice (some A) m m, .int .u32 (n : Int)] w fun e w' => ∃ v', e = .returned v' ∧ OwnB w' w.heap.size 5 v' (bs ++ be 4 n) ∧ Below w.heap.size w w' := by
 go_enter Tryz.func190, Tryz.ntmps190
 go_wp2_with (at_builtin; refine wpList_append_full rfl (.tmp 5) (.tmp 17) _ rfl _ Tryz.underlying38 info_u8 _ A m bs rfl (hs.below ((Below.refl _ w).alloc Qn _) Qn) _ ⟨w.heap.size, 0, none⟩ 4 4 (be 4 n) rfl (Sl.new (heap_alloc_new w _) (by rw [be4_cells n hn]) (be_byte 4 n) 4 rfl (by rw [be_len]; decide)) (by decide) (by omega) ?_; intro v1 w1 ho1 hB1)
 go_ret
 exact ⟨_, rfl, ho1.mono (by simp), (Qb.alloc Qn _).trans (hB1.mono (by simp))⟩
theorem sread_any (a : Option Addr) (len cap : Nat) (bs : List Nat) (w : World) (hs : Sl w w.heap.size a len cap bs) (h4 : 4 ≤ len) :
 Calls Tryz.prog 164 #[.slice a len cap] w fun e w' => e = .returned (.int .u32 ((val (bs.take 4) : Nat) : Int)) ∧ Below w.heap.size w w' := by
 obtain ⟨b, o, rfl, hb, hc⟩ := hs.at_ (by omega)
 have c0 := hc 0 (by omega)
 have c1 := hc 1 (by omega)
 have c2 := hc 2 (by omega)
 have c3 := hc 3 (by omega)
 have b0 := hs.lt (k := 0) (by omega)
 have b1 := hs.lt (k := 1) (by omega)
 have b2 := hs.lt (k := 2) (by omega)
 have b3 := hs.lt (k := 3) (by omega)
 have i0 : 0 < len := by omega
 have i1 : (1 : Int) < (len : Int) := by omega
 have i2 : (2 : Int) < (len : Int) := by omega
 have i3 : (3 : Int) < (len : Int) := by omega
 have Hv : Hid (val (bs.take 4) = ((bs.getD 0 0 * 256 + bs.getD 1 0) * 256 + bs.getD 2 0) * 256 + bs.getD 3 0) := by
  show _ = _
  have hl := hs.length
  match bs, hl with
  | x :: y :: z :: u :: t, _ => simp [val]
  | [x, y, z], hl => simp at hl; omega
  | [x, y], hl => simp at hl; omega
  | [x], hl => simp at hl; omega
  | [], hl => simp at hl; omega
 generalize val (bs.take 4) = z at *
 generalize bs.getD 0 0 = x0 at *
 generalize bs.getD 1 0 = x1 at *
 generalize bs.getD 2 0 = x2 at *
 generalize bs.getD 3 0 = x3 at *
 clear hc hs
 have hw0 : IntKind.u32.wrap (x0 : Int) = (x0 : Int) := wraps_u32 _ (by omega) (by omega)
 have hw1 : IntKind.u32.wrap (x1 : Int) = (x1 : Int) := wraps_u32 _ (by omega) (by omega)
 have hw2 : IntKind.u32.wrap (x2 : Int) = (x2 : Int) := wraps_u32 _ (by omega) (by omega)
 have hw3 : IntKind.u32.wrap (x3 : Int) = (x3 : Int) := wraps_u32 _ (by omega) (by omega)
 have hm0 : IntKind.u32.wrap ((x0 : Int) * 16777216) = (x0 : Int) * 16777216 := wraps_u32 _ (by omega) (by omega)
 have hm1 : IntKind.u32.wrap ((x1 : Int) * 65536) = (x1 : Int) * 65536 := wraps_u32 _ (by omega) (by omega)
 have hm2 : IntKind.u32.wrap ((x2 : Int) * 256) = (x2 : Int) * 256 := wraps_u32 _ (by omega) (by omega)
 have e1 : bits .or .u32 ((x0 : Int) * 16777216) ((x1 : Int) * 65536) = (x0 : Int) * 16777216 + (x1 : Int) * 65536 := bits_join .u32 32 (by decide) wraps_u32 24 _ _ (by omega) (by omega) (by omega) (by omega) (by omega) (by omega)
 have e2 : bits .or .u32 ((x0 : Int) * 16777216 + (x1 : Int) * 65536) ((x2 : Int) * 256) = (x0 : Int) * 16777216 + (x1 : Int) * 65536 + (x2 : Int) * 256 := bits_join .u32 32 (by decide) wraps_u32 16 _ _ (by omega) (by omega) (by omega) (by omega) (by omega) (by omega)
 have e3 : bits .or .u32 ((x0 : Int) * 16777216 + (x1 : Int) * 65536 + (x2 : Int) * 256) (x3 : Int) = (z : Int) := (bits_join .u32 32 (by decide) wraps_u32 8 _ _ (by omega) (by omega) (by omega) (by omega) (by omega) (by omega)).trans (by have := Hv.out; omega)
 go_enter Tryz.func164, Tryz.ntmps164
 go_wp2_with fail
 refine wp_region_held_drew (S := fun w' => w'.cell? ⟨b, o, none⟩ = some (.int .u8 (x0 : Int)) ∧ w'.cell? ⟨b, o + 1, none⟩ = some (.int .u8 (x1 : Int)) ∧ w'.cell? ⟨b, o + 2, none⟩ = some (.int .u8 (x2 : Int)) ∧ w'.cell? ⟨b, o + 3, none⟩ = some (.int .u8 (x3 : Int))) (by kernel_rfl) ⟨c0, c1, c2, c3⟩ (fun hHeld => ?_)
 refine qi 0 (by assumption) ?_
 iterate 23 (refine qk rfl (by kernel_rfl) (fun _ _ _ h => h) (by intro w hSw; (try dsimp only at hSw); go_simp; all_goals with_reducible rfl) (by (try simp only [Act.put, lz]); rfl) ?_)
 refine qo ?_
 refine wpAnyH_done (by kernel_rfl) ?_ _
 go_wp2
 go_ret
 exact ⟨rfl, Below.drew Qb⟩
theorem segHead_yes (n : Nat) (hn : n ≤ 1073741824) (w : World) :
 Calls Tryz.prog 146 #[.int .i64 (n : Int)] w fun e w' => ∃ v, e = .returned v ∧ OwnB w' w.heap.size 5 v (head n) ∧ Below w.heap.size w w' := by
 have hi := Qh (first_yes (n : Int) (by omega) (by omega))
 have hwn : IntKind.u32.wrap (n : Int) = (n : Int) := wraps_u32 _ (by omega) (by omega)
 have kc := fun (w : World) (C : Array Value) (n c : Nat) => Lib.run_convert_bytes_const (P := Tryz.prog) w 38 5 C n c Tryz.underlying38 Tryz.underlying5
 have W1 := Qh (swrite_full ⟨w.heap.size, 0, none⟩ 4 magic n (by omega) (w.alloc (.cells #[.int .u8 71, .int .u8 79, .int .u8 86, .int .u8 49] 5 (4, 5))) (Sl.new (heap_alloc_new w _) (by rfl) (by decide) 4 rfl (by decide)) (by decide))
 go_enter Tryz.func146, Tryz.ntmps146
 go_wp2_with (first | (go_at_call 101; refine (hi.out _).mono ?_; rintro e w1 ⟨rfl, rfl⟩) | fail)
 refine W1.out.mono ?_
 rintro e w2 ⟨v2, rfl, ho2, hb2⟩
 have ho2 := ho2.mono (base' := w.heap.size) (by simp)
 have hB2 : Below w.heap.size w w2 := (Qb.alloc Qn _).trans (hb2.mono (by simp))
 obtain ⟨a2, c2, hv2, hs2⟩ := ho2.sl (hd0_byte n)
 rw [show (magic ++ be 4 n).length = 8 from hd0_len n] at hv2 hs2
 subst hv2
 have OF := Qh (of_any a2 8 c2 _ w2 hs2)
 have hml := more_lt 0 (magic ++ be 4 n)
 have H2 := Qh (Qa ho2 hB2)
 clear hb2 ho2 hB2 hs2 W1 hi kc
 go_wp2_with fail
 refine OF.out.mono ?_
 rintro e w3 ⟨rfl, hb3⟩
 have hB3 := H2.out.2.trans (hb3.mono H2.out.2.size)
 have W3 := Qh (swrite_any _ _ w.heap.size _ hml w3 (H2.out.1.below hb3) hB3.size (by rw [show (magic ++ be 4 n).length = 8 from hd0_len n]; decide))
 have HB3 := Qh hB3
 clear hb3 hB3 H2 OF
 go_wp2_with fail
 refine W3.out.mono ?_
 rintro e w4 ⟨v4, rfl, ho4, hb4⟩
 have HH := Qh (Qa ho4 (HB3.out.trans hb4))
 clear ho4 hb4 W3 HB3
 go_wp2
 go_ret
 exact ⟨_, rfl, HH.out.1, HH.out.2⟩
theorem segHead_no (n : Int) (h : ¬ (0 ≤ n ∧ n ≤ 1073741824)) (w : World) :
 Calls Tryz.prog 146 #[.int .i64 n] w fun e w' => e = .returned (.slice none 0 0) ∧ w = w' := by
 have hi := Qh (first_no n h)
 clear h
 go_enter Tryz.func146, Tryz.ntmps146
 go_wp2_with (first | (go_at_call 101; refine (hi.out _).mono ?_; rintro e w1 ⟨rfl, rfl⟩) | fail)
 go_ret
 exact ⟨rfl, rfl⟩
end
end Go.Proofs.YtamblmoedommfaaGreatDoor
