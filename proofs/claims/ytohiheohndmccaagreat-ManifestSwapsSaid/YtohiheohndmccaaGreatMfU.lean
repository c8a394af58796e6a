/- The reference's Put of lists. -/
import Derived.Test.YtohiheohndmccaaGreatMfR
namespace Go.Proofs.YtohiheohndmccaaGreat
open Go.RowKit Go.Sort
open Crc Frm
attribute [local go_sem] Oper.semAt_some

/-- Four own bytes, as a slice. -/
theorem own_four {w : World} {base : Nat} {e : TypeId} {g : Nat} {bs : List Nat} (h : OwnB w base e (.slice (some ⟨g, 0, none⟩) 4 4) bs) (hb : ∀ c ∈ bs, c < 256) (hl : bs.length = 4) : Sl w w.heap.size (some ⟨g, 0, none⟩) 4 4 bs := by
  obtain ⟨a, c, hv, hs⟩ := h.sl hb
  rw [hl] at hv hs
  injection hv with h1 h2 h3
  subst h1 h3
  exact hs
set_option linter.unusedSimpArgs false in
set_option maxRecDepth 100000 in
set_option maxHeartbeats 3200000 in
theorem rput5_any (l : List Int) (a : Option Addr) (n c : Nat) (w : World) (hr : Row w w.heap.size a n c 1 (intsC l)) (hn : l.length = n) :
    Calls Tryz.prog 48 #[.slice a n c] w fun e w' => ∃ v, e = .returned v ∧ OwnB w' w.heap.size 5 v (mPut l) ∧ Below w.heap.size w w' := by
  have R := Lib.hid (rright5_any l a n c w hr hn)
  by_cases hok : mOk l = true
  · have hall := mOk_all hok
    rw [hok] at R
    have hp : Hid (mPut l = mRaw l) := by show _ = _; unfold mPut; rw [if_pos hok]
    have n1 : 1 ≤ n := by omega
    have n2 : n ≤ 40 := by omega
    have u0 : (n : Int) % 256 = (n : Int) := by omega
    have u1 : IntKind.u8.wrap (n : Int) = (n : Int) := by rw [IntKind.wrap_u8]; omega
    have HR := Lib.hid (And.intro hr (And.intro hn hall.2.2))
    clear hr hn hall
    go_enter Tryz.func48, Tryz.ntmps48
    go_wp2_with fail
    refine R.out.mono ?_
    rintro e w1 ⟨rfl, hb1⟩
    have hown1 : OwnB (w1.alloc (.cells #[.int .u8 (n : Int)] 5)) w.heap.size 5 (.slice (some ⟨w1.heap.size, 0, none⟩) 1 1) [n] := OwnB.lit (w := w1) 5 [n] hb1.size (by simp [maxLen])
    have H1 := Lib.hid (And.intro hown1 (hb1.alloc hb1.size (.cells #[.int .u8 (n : Int)] 5)))
    clear hown1 hb1 R
    go_wp2_with fail
    go_loopw [3, 4] (fun u i wx => ∃ k : Nat, k ≤ n ∧ i = .int .i64 (k : Int) ∧ OwnB wx w.heap.size 5 u (n :: mNums (l.take k)) ∧ Below w.heap.size w wx) (fun _ i _ => n - (intOf i).toNat)
    case atStart => exact ⟨0, Nat.zero_le _, rfl, H1.out.1, H1.out.2⟩
    case round =>
      obtain ⟨k, hk, rfl, ho, hb⟩ := hrel
      by_cases hlt : k < n
      · obtain ⟨b, o, rfl, hbl, hc⟩ := HR.out.1.at_ (by omega)
        have c0 := (hb.cell (p := ⟨b, o + k, none⟩) hbl).trans (hc k (by omega))
        simp only [intsC, Nat.mul_one] at c0
        have hlk : k < l.length := by have := HR.out.2.1; omega
        have hmem : l.getD k 0 ∈ l := by rw [List.getD_eq_getElem?_getD, List.getElem?_eq_getElem hlk]; exact List.getElem_mem _
        have hx := HR.out.2.2 _ hmem
        have htk : l.take (k + 1) = l.take k ++ [l.getD k 0] := by rw [List.take_succ_eq_append_getElem hlk, List.getD_eq_getElem?_getD, List.getElem?_eq_getElem hlk]; rfl
        have Hnx : Hid (n :: mNums (l.take (k + 1)) = (n :: mNums (l.take k)) ++ be 4 (l.getD k 0).toNat) := by show _ = _; rw [htk, mNums_snoc]; rfl
        generalize l.getD k 0 = x at *
        obtain ⟨y, rfl⟩ := Int.eq_ofNat_of_zero_le hx.1
        have w1' : IntKind.u64.wrap ((y : Nat) : Int) = (y : Int) := by rw [IntKind.wrap_u64]; omega
        have hlen : (n :: mNums (l.take k)).length ≤ 1000000 := by have h1 := mNums_len (l.take k); have h2 := List.length_take_le k l; simp only [List.length_cons]; omega
        have NU := Lib.hid (number_any y 4 (by omega) (by decide) (by decide) wr)
        have e3 : ((y : Nat) : Int).toNat = y := rfl
        rw [e3] at Hnx
        have hbe4 := be_byte 4 y
        have hbl4 := be_len 4 y
        generalize be 4 y = b4 at NU Hnx hbe4 hbl4
        have HB := Lib.hid (And.intro hb ho)
        generalize n :: mNums (l.take k) = ns at *
        clear hc hb hmem htk ho hx H1
        go_wp2_with fail
        refine NU.out.mono ?_
        rintro e w4 ⟨g4, rfl, ho4, hb4⟩
        have hs4 := own_four ho4 hbe4 hbl4
        have hb4' := HB.out.1.trans (hb4.mono HB.out.1.size)
        have ho3 := HB.out.2.below hb4
        clear ho4 hb4 NU HB c0
        go_wp2_with (first
          | (at_builtin; refine wpList_append_sl rfl (.tmp 18) (.tmp 24) 32 rfl w.heap.size _ Tryz.underlying32 info_u8 _ ns rfl ho3 _ (some ⟨g4, 0, none⟩) 4 4 b4 rfl hs4 (by omega) (by have := hb4'.size; omega) ?_; intro v5 w5 ho5 hg5 hat5; have hB5 : Below w.heap.size w w5 := hb4'.grown hg5 hb4'.size (fun k hk => (ho3.at_base hk).1); have H5 := Lib.hid (And.intro ho5 hB5); clear ho5 hB5 hg5 hat5 ho3 hb4' hs4)
          | fail)
        go_roundw
        case rel => exact ⟨k + 1, by omega, by go_num, by rw [Hnx.out]; exact H5.out.1, H5.out.2⟩
        case measure => simp [intOf]; omega
      · have hkn : k = n := by omega
        subst hkn
        have hms : k :: mNums (l.take k) = mSum l := by rw [List.take_of_length_le (by have := HR.out.2.1; omega)]; unfold mSum; rw [HR.out.2.1]
        rw [hms] at ho
        have hbb : ∀ c ∈ mSum l, c < 256 := by
          intro c hc
          rcases List.mem_cons.1 hc with rfl | h
          · have := HR.out.2.1; omega
          · exact mNums_byte l c h
        have hsl : (mSum l).length ≤ 1000000 := by have h1 := mNums_len l; have h2 := HR.out.2.1; unfold mSum; simp only [List.length_cons]; omega
        obtain ⟨a5, cap5, rfl, hs5⟩ := ho.sl hbb
        have hml := more_lt 0 (mSum l)
        have Hraw : Hid (mPut l = mSum l ++ be 4 (more 0 (mSum l))) := by show _ = _; rw [hp.out]; rfl
        generalize mSum l = ms at *
        generalize hml0 : more 0 ms = m at *
        have HM := Lib.hid hml0
        have OF := Lib.hid (rof_any a5 ms.length cap5 ms wr hs5)
        have hw6 : IntKind.u64.wrap ((m : Nat) : Int) = (m : Int) := by rw [IntKind.wrap_u64]; omega
        have H5 := Lib.hid (And.intro ho hb)
        have NU := Lib.hid (number_any m 4 (by omega) (by decide) (by decide) wr)
        have hbe4 := be_byte 4 m
        have hbl4 := be_len 4 m
        generalize be 4 m = b4 at NU Hraw hbe4 hbl4
        clear ho hb hs5 hbb hms hml0 H1
        go_wp2_with fail
        refine OF.out.mono ?_
        rintro e w6 ⟨rfl, rfl⟩
        rw [HM.out]
        go_wp2_with fail
        refine NU.out.mono ?_
        rintro e w4 ⟨g4, rfl, ho4, hb4⟩
        have hs4 := own_four ho4 hbe4 hbl4
        have hb4' := H5.out.2.trans (hb4.mono H5.out.2.size)
        have ho3 := H5.out.1.below hb4
        clear ho4 hb4 NU OF H5
        go_wp2_with (first
          | (at_builtin; refine wpList_append_sl rfl (.tmp 26) (.tmp 30) 32 rfl w.heap.size _ Tryz.underlying32 info_u8 _ ms rfl ho3 _ (some ⟨g4, 0, none⟩) 4 4 b4 rfl hs4 (by omega) (by have := hb4'.size; omega) ?_; intro v5 w5 ho5 hg5 hat5; have hB5 : Below w.heap.size w w5 := hb4'.grown hg5 hb4'.size (fun k hk => (ho3.at_base hk).1); have H5 := Lib.hid (And.intro ho5 hB5); clear ho5 hB5 hg5 hat5 ho3 hb4' hs4)
          | fail)
        go_ret
        exact ⟨_, rfl, by rw [Hraw.out]; exact H5.out.1, H5.out.2⟩
  · have hno : mOk l = false := by simpa using hok
    rw [hno] at R
    have hp : Hid (mPut l = []) := by show _ = _; unfold mPut; rw [if_neg hok]
    go_enter Tryz.func48, Tryz.ntmps48
    go_wp2_with fail
    refine R.out.mono ?_
    rintro e w1 ⟨rfl, hb1⟩
    have HB := Lib.hid hb1
    clear hb1
    go_wp2
    go_ret
    exact ⟨_, rfl, by rw [hp.out]; exact OwnB.nil_ _ _ _, HB.out⟩
end Go.Proofs.YtohiheohndmccaaGreat
