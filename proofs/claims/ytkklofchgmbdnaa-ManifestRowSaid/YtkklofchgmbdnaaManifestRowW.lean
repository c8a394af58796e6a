/- The walk of ManifestRow. -/
import Derived.Test.YtkklofchgmbdnaaManifestWholeW
import Derived.Test.YtkklofchgmbdnaaOpR
namespace Go.Proofs.Ytkklofchgmbdnaa
open Go.RowKit Go.Sort
open Go.Maps
attribute [local go_sem] Oper.semAt_some

/-- The disk behind Swaps that are done: the last list, and no other file. -/
def rowD : List Int → FS
  | [] => .map []
  | l => .map [(.string mfL, .held ⟨mPut l, (mPut l).length⟩)]
def rowT (l : List Int) : St := ⟨rowD l, 3000, -1, 0⟩
theorem rowD_ok {l : List Int} (h : mOk l = true) : rowD l = .map [(.string mfL, .held ⟨mPut l, (mPut l).length⟩)] := by
  cases l with
  | nil => cases h
  | cons x l => rfl
theorem row_load0 : mLoad (rowT []) = ([], 3) := rfl
theorem row_load {l : List Int} (h : mOk l = true) : mLoad (rowT l) = (l, 0) := load_has h (by
  show fat (rowD l) mfL = _
  rw [rowD_ok h]
  rfl)
theorem row_names {l : List Int} (h : mOk l = true) : strKeys (rowT l).D = [mfL] := by
  show strKeys (rowD l) = _
  rw [rowD_ok h]
  rfl
theorem row_swap1 (D : FS) (hD : D = .map [] ∨ ∃ Q : List Nat, Q.length ≤ 165 ∧ D = .map [(.string mfL, .held ⟨Q, Q.length⟩)]) {l : List Int} (h : mOk l = true) : mSwap ⟨D, 3000, -1, 0⟩ l = (0, ⟨.map [(.string mfL, .held ⟨mPut l, (mPut l).length⟩)], 3000, -1, 0⟩) := by
  have hP := mPut_le h
  have hfit : fitsB D 3000 nxL (mPut l).length = true := by
    unfold fitsB
    rcases hD with rfl | ⟨Q, hQ, rfl⟩
    · have : decide (tot (.map [] : FS) + (mPut l).length ≤ 3000) = true := by simp [tot]; omega
      rw [this]; rfl
    · have : decide (tot (.map [(.string mfL, .held ⟨Q, Q.length⟩)] : FS) + (mPut l).length ≤ 3000) = true := by simp [tot, lenOf]; omega
      rw [this]; rfl
  have hn : fat D nxL = none := by rcases hD with rfl | ⟨Q, _, rfl⟩ <;> rfl
  have e0 : delNext ⟨D, 3000, -1, 0⟩ = (0, ⟨D, 3000, -1, 0⟩) := by
    unfold delNext
    rw [if_neg (by rw [show fat (⟨D, 3000, -1, 0⟩ : St).D nxL = none from hn]; decide)]
  have e1 : (⟨D, 3000, -1, 0⟩ : St).write nxL (mPut l) = (0, ⟨D.put (.string nxL) (.held ⟨mPut l, 0⟩), 3000, -1, 0⟩) := by
    unfold St.write
    rw [if_neg (by show ¬ ((-1 : Int) = 0); decide), if_neg (by decide), show fitsB (⟨D, 3000, -1, 0⟩ : St).D (⟨D, 3000, -1, 0⟩ : St).room nxL (mPut l).length = true from hfit, if_neg (by decide), show fat (⟨D, 3000, -1, 0⟩ : St).D nxL = none from hn]
    rfl
  have e2 : (⟨D.put (.string nxL) (.held ⟨mPut l, 0⟩), 3000, -1, 0⟩ : St).sync nxL = (0, ⟨(D.put (.string nxL) (.held ⟨mPut l, 0⟩)).put (.string nxL) (.held ⟨mPut l, (mPut l).length⟩), 3000, -1, 0⟩) := by
    rcases hD with rfl | ⟨Q, _, rfl⟩ <;> rfl
  have e3 : (⟨(D.put (.string nxL) (.held ⟨mPut l, 0⟩)).put (.string nxL) (.held ⟨mPut l, (mPut l).length⟩), 3000, -1, 0⟩ : St).rename nxL mfL = (0, ⟨.map [(.string mfL, .held ⟨mPut l, (mPut l).length⟩)], 3000, -1, 0⟩) := by
    rcases hD with rfl | ⟨Q, _, rfl⟩ <;> rfl
  have s1 : mSt ⟨D, 3000, -1, 0⟩ l 1 = ⟨D, 3000, -1, 0⟩ := by show (delNext _).2 = _; rw [e0]
  have s2 : mSt ⟨D, 3000, -1, 0⟩ l 2 = ⟨D.put (.string nxL) (.held ⟨mPut l, 0⟩), 3000, -1, 0⟩ := by show ((mSt _ l 1).write nxL (mPut l)).2 = _; rw [s1, e1]
  have s3 : mSt ⟨D, 3000, -1, 0⟩ l 3 = ⟨(D.put (.string nxL) (.held ⟨mPut l, 0⟩)).put (.string nxL) (.held ⟨mPut l, (mPut l).length⟩), 3000, -1, 0⟩ := by show ((mSt _ l 2).sync nxL).2 = _; rw [s2, e2]
  have s4 : mSt ⟨D, 3000, -1, 0⟩ l 4 = ⟨.map [(.string mfL, .held ⟨mPut l, (mPut l).length⟩)], 3000, -1, 0⟩ := by show ((mSt _ l 3).rename nxL mfL).2 = _; rw [s3, e3]
  have a0 : mAns ⟨D, 3000, -1, 0⟩ l 0 = 0 := by show (delNext _).1 = _; rw [e0]
  have a1 : mAns ⟨D, 3000, -1, 0⟩ l 1 = 0 := by show ((mSt _ l 1).write nxL (mPut l)).1 = _; rw [s1, e1]
  have a2 : mAns ⟨D, 3000, -1, 0⟩ l 2 = 0 := by show ((mSt _ l 2).sync nxL).1 = _; rw [s2, e2]
  have a3 : mAns ⟨D, 3000, -1, 0⟩ l 3 = 0 := by show ((mSt _ l 3).rename nxL mfL).1 = _; rw [s3, e3]
  unfold mSwap
  rw [if_pos h, turn_end _ l (fun j hj => by match j, hj with | 0, _ => exact a0 | 1, _ => exact a1 | 2, _ => exact a2 | 3, _ => exact a3), s4]
  rfl
theorem row_swap {last l : List Int} (hl : last = [] ∨ mOk last = true) (h : mOk l = true) : mSwap (rowT last) l = (0, rowT l) := by
  have e := row_swap1 (rowD last) (by
    rcases hl with rfl | hl
    · exact .inl rfl
    · exact .inr ⟨mPut last, mPut_le hl, rowD_ok hl⟩) h
  unfold rowT
  rw [e, rowD_ok h]
theorem row_no {t : St} {l : List Int} (h : mOk l = false) : mSwap t l = (1, t) := by unfold mSwap; rw [if_neg (by rw [h]; decide)]
set_option linter.unusedSimpArgs false in
set_option maxRecDepth 100000 in
set_option maxHeartbeats 6400000 in
theorem manifestRow_walk (a : Option Addr) (n c : Nat) (ls : List (List Int)) (w : World) (hs : Rws w w.heap.size a n c ls) :
    Calls Try.prog 8 #[.slice a n c] w fun e w' => e = .returned (.bool true) ∧ Below w.heap.size w w' := by
  have hcm1 := hs.max
  have hle1 := hs.le
  unfold maxLen at hcm1
  have H1 := Lib.hid (head5_any w)
  have HS := Lib.hid hs
  clear hs
  go_enter Try.func8, Try.ntmps8
  go_wp2_with fail
  refine H1.out.mono ?_
  rintro e w1 ⟨rfl, hb1⟩
  have B1 := Lib.hid hb1
  have N1 := Lib.hid (DK.new 3000 (by decide) w1)
  clear hb1 H1
  go_wp2_with fail
  refine N1.out.mono ?_
  rintro e w2 ⟨dp, O2, rfl, hk, _, _⟩
  have K2 : Hid (DK w1 w2 dp (rowT []) O2) := Lib.hid hk
  clear hk N1
  by_cases h1 : 60 < n
  · go_wp2
    go_ret
    exact ⟨rfl, atWorld B1.out K2.out⟩
  go_wp2_with fail
  go_loopw [5, 6] (fun v i wr => ∃ (k : Nat) (last : List Int) (al : Option Addr) (m cl : Nat) (O : Nat → Prop), k ≤ n ∧ i = .int .i64 (k : Int) ∧ v = .slice al m cl ∧ last.length = m ∧ Row w w.heap.size al m cl 1 (intsC last) ∧ (last = [] ∨ mOk last = true) ∧ DK w1 wr dp (rowT last) O) (fun _ i _ => n - (intOf i).toNat)
  case atStart => exact ⟨0, [], none, 0, 0, O2, Nat.zero_le _, rfl, rfl, rfl, ⟨Nat.le_refl _, by simp [maxLen], fun hn => absurd hn (by omega)⟩, .inl rfl, K2.out⟩
  case round =>
    obtain ⟨k, last, al, m, cl, O3, hk, rfl, rfl, hm, hrl, hlast, k3⟩ := hrel
    have K3 := Lib.hid k3
    have RL := Lib.hid hrl
    have HL := Lib.hid (And.intro hm hlast)
    clear k3 hrl hm hlast
    by_cases hlt : k < n
    · obtain ⟨b, o, rfl, hb, hc⟩ := HS.out.at_ (by omega)
      have hlk : k < ls.length := by have := HS.out.length; omega
      obtain ⟨ba, bc, hcell, hrow⟩ := hc k _ (List.getElem?_eq_getElem hlk)
      generalize ls[k] = lk at *
      obtain ⟨nk, hnk⟩ : ∃ nk, nk = lk.length := ⟨_, rfl⟩
      rw [← hnk] at hcell hrow
      have hnk9 := hrow.max
      have hnk8 := hrow.le
      unfold maxLen at hnk9
      have RW := Lib.hid (And.intro hrow hnk.symm)
      have hcell9 := hcell
      have c0 := ((atWorld B1.out K3.out).cell (p := ⟨b, o + k, none⟩) hb).trans hcell
      clear hc hcell hrow hnk
      by_cases h9 : 900 < nk
      · go_wp2
        go_ret
        exact ⟨rfl, atWorld B1.out K3.out⟩
      have SW := mswap_any K3.out lk ba nk bc (rowAt RW.out.1 B1.out K3.out) RW.out.2 (farAt RW.out.1 B1.out K3.out)
      have BC := Lib.hid (And.intro hb hcell9)
      by_cases hok : mOk lk = true
      · rw [row_swap HL.out.2 hok] at SW
        have SW := Lib.hid SW
        go_wp2_with fail
        refine SW.out.mono ?_
        rintro e w4 ⟨rfl, hmv⟩
        obtain ⟨O4, k4, _, _⟩ := hmv.far
        have K4 := Lib.hid k4
        have c4 := ((atWorld B1.out K4.out).cell (p := ⟨b, o + k, none⟩) hb).trans BC.out.2
        have RT := mright_any lk ba nk bc w4 (rowAt RW.out.1 B1.out K4.out) RW.out.2
        rw [hok] at RT
        have RT := Lib.hid RT
        clear hmv k4 SW c0
        go_wp2_with fail
        refine RT.out.mono ?_
        rintro e w5 ⟨rfl, rfl⟩
        have hnk0 : 0 < nk := by have := (mOk_all hok).1; have := RW.out.2; omega
        have hnk1 : (0 : Int) < (nk : Int) := by omega
        have hnk2 : decide ((0 : Int) < (nk : Int)) = true := by simp; omega
        clear RT
        have LD := mload_any K4.out
        rw [row_load hok] at LD
        have LD := Lib.hid LD
        go_wp2_with fail
        refine LD.out.mono ?_
        rintro e y1 ⟨vy1, rfl, hoy1, hby1⟩
        obtain ⟨ax, cx, hvx, hrx, _⟩ := hoy1.out
        try simp only [] at hvx hrx
        rw [RW.out.2] at hvx hrx
        subst hvx
        have KA := Lib.hid (K4.out.on hby1)
        have SM := rsame_any lk lk ax ba nk nk cx bc y1 hrx (rowAt RW.out.1 B1.out KA.out) RW.out.2 RW.out.2
        rw [decide_eq_true rfl] at SM
        have SM := Lib.hid SM
        clear hoy1 hby1 hrx LD
        go_wp2_with fail
        refine SM.out.mono ?_
        rintro e y2 ⟨rfl, hb2⟩
        have KB := Lib.hid (KA.out.on hb2)
        clear hb2 SM KA
        have LS := KB.out.list
        rw [row_names hok] at LS
        have LS := Lib.hid LS
        go_wp2_with fail
        refine LS.out.mono ?_
        rintro e y3 hN
        obtain ⟨g3, c3, rfl, hr3, _, hb3⟩ := NewNames.out hN
        have KC := Lib.hid (KB.out.on hb3)
        have hb := (Below.refl y3.heap.size y3).alloc (Nat.le_refl _) (.cells #[.string ⟨#[109, 97, 110, 105, 102, 101, 115, 116]⟩] 9)
        have SS := Lib.hid (sameStr_any [mfL] (some ⟨g3, 0, none⟩) (some ⟨y3.heap.size, 0, none⟩) c3 1 _ (hr3.on hb) (Row.new (heap_alloc_new y3 _) (fun j hj => by (match j, hj with | 0, _ => rfl)) (by decide)))
        have KD9 := Lib.hid (KC.out.on hb)
        clear hN hr3 hb3 LS KB KC hb
        go_wp2_with fail
        refine SS.out.mono ?_
        rintro e y4 ⟨rfl, hb4⟩
        have KE := Lib.hid (KD9.out.on hb4)
        clear hb4 SS KD9
        go_wp2
        go_roundw
        case rel => exact ⟨k + 1, lk, ba, nk, bc, _, by omega, by go_num, rfl, RW.out.2, RW.out.1, .inr hok, KE.out⟩
        case measure => simp [intOf]; omega
      · have hno : mOk lk = false := by simpa using hok
        rw [row_no hno] at SW
        have SW := Lib.hid SW
        go_wp2_with fail
        refine SW.out.mono ?_
        rintro e w4 ⟨rfl, hmv⟩
        obtain ⟨O4, k4, _, _⟩ := hmv.far
        have K5 := Lib.hid k4
        have c4 := ((atWorld B1.out K5.out).cell (p := ⟨b, o + k, none⟩) hb).trans BC.out.2
        have RT := mright_any lk ba nk bc w4 (rowAt RW.out.1 B1.out K5.out) RW.out.2
        rw [hno] at RT
        have RT := Lib.hid RT
        clear hmv k4 SW c0
        go_wp2_with fail
        refine RT.out.mono ?_
        rintro e w5 ⟨rfl, rfl⟩
        clear RT
        by_cases hl0 : last = []
        · subst hl0
          have hm0 : m = 0 := HL.out.1.symm
          subst hm0
          have LD := mload_any K5.out
          rw [row_load0] at LD
          have LD := Lib.hid LD
          go_wp2_with fail
          refine LD.out.mono ?_
          rintro e y1 ⟨vy1, rfl, hoy1, hby1⟩
          obtain ⟨ax, cx, hvx, hrx, _⟩ := hoy1.out
          try simp only [List.length_nil] at hvx hrx
          subst hvx
          have KA := Lib.hid (K5.out.on hby1)
          have SM := rsame_any [] [] ax al 0 0 cx cl y1 hrx (rowAt RL.out B1.out KA.out) rfl rfl
          rw [decide_eq_true rfl] at SM
          have SM := Lib.hid SM
          clear hoy1 hby1 hrx LD
          go_wp2_with fail
          refine SM.out.mono ?_
          rintro e y2 ⟨rfl, hb2⟩
          have KB := Lib.hid (KA.out.on hb2)
          clear hb2 SM KA
          go_wp2
          go_roundw
          case rel => exact ⟨k + 1, [], al, 0, cl, _, by omega, by go_num, rfl, rfl, RL.out, .inl rfl, KB.out⟩
          case measure => simp [intOf]; omega
        · have hokl : mOk last = true := HL.out.2.resolve_left hl0
          have hnk0 : 0 < m := by have := (mOk_all hokl).1; have := HL.out.1; omega
          have hnk1 : (0 : Int) < (m : Int) := by omega
          have hnk2 : decide ((0 : Int) < (m : Int)) = true := by simp; omega
          have LD := mload_any K5.out
          rw [row_load hokl] at LD
          have LD := Lib.hid LD
          go_wp2_with fail
          refine LD.out.mono ?_
          rintro e y1 ⟨vy1, rfl, hoy1, hby1⟩
          obtain ⟨ax, cx, hvx, hrx, _⟩ := hoy1.out
          try simp only [] at hvx hrx
          rw [HL.out.1] at hvx hrx
          subst hvx
          have KA := Lib.hid (K5.out.on hby1)
          have SM := rsame_any last last ax al m m cx cl y1 hrx (rowAt RL.out B1.out KA.out) HL.out.1 HL.out.1
          rw [decide_eq_true rfl] at SM
          have SM := Lib.hid SM
          clear hoy1 hby1 hrx LD
          go_wp2_with fail
          refine SM.out.mono ?_
          rintro e y2 ⟨rfl, hb2⟩
          have KB := Lib.hid (KA.out.on hb2)
          clear hb2 SM KA
          have LS := KB.out.list
          rw [row_names hokl] at LS
          have LS := Lib.hid LS
          go_wp2_with fail
          refine LS.out.mono ?_
          rintro e y3 hN
          obtain ⟨g3, c3, rfl, hr3, _, hb3⟩ := NewNames.out hN
          have KC := Lib.hid (KB.out.on hb3)
          have hb := (Below.refl y3.heap.size y3).alloc (Nat.le_refl _) (.cells #[.string ⟨#[109, 97, 110, 105, 102, 101, 115, 116]⟩] 9)
          have SS := Lib.hid (sameStr_any [mfL] (some ⟨g3, 0, none⟩) (some ⟨y3.heap.size, 0, none⟩) c3 1 _ (hr3.on hb) (Row.new (heap_alloc_new y3 _) (fun j hj => by (match j, hj with | 0, _ => rfl)) (by decide)))
          have KD9 := Lib.hid (KC.out.on hb)
          clear hN hr3 hb3 LS KB KC hb
          go_wp2_with fail
          refine SS.out.mono ?_
          rintro e y4 ⟨rfl, hb4⟩
          have KE := Lib.hid (KD9.out.on hb4)
          clear hb4 SS KD9
          go_wp2
          go_roundw
          case rel => exact ⟨k + 1, last, al, m, cl, _, by omega, by go_num, rfl, HL.out.1, RL.out, .inr hokl, KE.out⟩
          case measure => simp [intOf]; omega
    · go_wp2
      go_ret
      exact ⟨rfl, atWorld B1.out K3.out⟩
end Go.Proofs.Ytkklofchgmbdnaa
