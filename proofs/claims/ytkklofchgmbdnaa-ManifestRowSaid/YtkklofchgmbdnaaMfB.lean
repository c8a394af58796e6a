/- Contracts of the program's manifest: Put. -/
import Derived.Test.YtkklofchgmbdnaaMfA
namespace Go.Proofs.Ytkklofchgmbdnaa
open Go.RowKit Go.Sort
open Crc Frm
attribute [local go_sem] Oper.semAt_some

/-- The numbers, as bytes. -/
def mNums (l : List Int) : List Nat := l.flatMap fun n => be 4 n.toNat
def mSum (l : List Int) : List Nat := l.length :: mNums l
def mRaw (l : List Int) : List Nat := mSum l ++ be 4 (more 0 (mSum l))
/-- A list's bytes. -/
def mPut (l : List Int) : List Nat := if mOk l = true then mRaw l else []
theorem upL_all : ∀ (l : List Int) (z : Int), upL z l = true → ∀ x ∈ l, z < x ∧ x ≤ 1073741824
  | [], _, _, x, hx => by cases hx
  | y :: l, z, h, x, hx => by
    simp only [upL, Bool.and_eq_true, decide_eq_true_eq] at h
    rcases List.mem_cons.1 hx with rfl | hx
    · exact ⟨h.1, h.2.1⟩
    · have := upL_all l y h.2.2 x hx
      exact ⟨by omega, this.2⟩
theorem mOk_all {l : List Int} (h : mOk l = true) : 1 ≤ l.length ∧ l.length ≤ 40 ∧ ∀ x ∈ l, 0 ≤ x ∧ x ≤ 1073741824 := by
  simp only [mOk, Bool.and_eq_true, decide_eq_true_eq] at h
  refine ⟨h.1, h.2.1, fun x hx => ?_⟩
  have := upL_all l _ h.2.2 x hx
  omega
theorem mNums_len (l : List Int) : (mNums l).length = 4 * l.length := by
  induction l with
  | nil => rfl
  | cons x l ih => simp only [mNums, List.flatMap_cons, List.length_append, be_len, List.length_cons] at *; omega
theorem mNums_byte (l : List Int) : ∀ c ∈ mNums l, c < 256 := by
  intro c hc
  obtain ⟨m, _, h⟩ := List.mem_flatMap.1 hc
  exact be_byte _ _ c h
theorem mNums_snoc (l : List Int) (x : Int) : mNums (l ++ [x]) = mNums l ++ be 4 x.toNat := by simp [mNums]

set_option linter.unusedSimpArgs false in
set_option maxRecDepth 100000 in
set_option maxHeartbeats 3200000 in
theorem mput_any (l : List Int) (a : Option Addr) (n c : Nat) (w : World) (hr : Row w w.heap.size a n c 1 (intsC l)) (hn : l.length = n) :
    Calls Try.prog 29 #[.slice a n c] w fun e w' => ∃ v, e = .returned v ∧ OwnB w' w.heap.size 5 v (mPut l) ∧ Below w.heap.size w w' := by
  have R := Lib.hid (mright_any l a n c w hr hn)
  by_cases hok : mOk l = true
  · have hall := mOk_all hok
    rw [hok] at R
    have hp : Hid (mPut l = mRaw l) := by show _ = _; unfold mPut; rw [if_pos hok]
    have n1 : 1 ≤ n := by omega
    have n2 : n ≤ 40 := by omega
    obtain ⟨i8, hi8, hz0, hz1, hz2⟩ := info_parts info_u8
    have u0 : (n : Int) % 256 = (n : Int) := by omega
    have HR := Lib.hid (And.intro hr (And.intro hn hall.2.2))
    clear hr hn hall
    go_enter Try.func29, Try.ntmps29
    go_wp2_with fail
    refine R.out.mono ?_
    rintro e w1 ⟨rfl, rfl⟩
    have SZ := Lib.hid (msize_any n (by omega) w)
    go_wp2_with fail
    refine SZ.out.mono ?_
    rintro e w1 ⟨rfl, rfl⟩
    go_wp2_with (first
      | (at_make; refine wpList_make_own _ rfl (.const (.int .i64 0)) (.tmp 11) 31 rfl w.heap.size 5 i8 (.int .u8 0) 1 Try.underlying31 hi8 hz0 hz1 .i64 .i64 _ (5 + 4 * n) rfl rfl (by omega) (by rw [hz2]; omega) (by unfold maxLen; omega) (by omega) ?_; intro w3 hown hg; have ho3 : OwnB w3 w.heap.size 5 (.slice (some ⟨w.heap.size, 0, none⟩) 0 (5 + 4 * n)) [] := hown; have hB3 : Below w.heap.size w w3 := (RowKit.Below.refl _ _).grown hg (Nat.le_refl _) (fun k hk => by cases hk); have H3 := Lib.hid (And.intro ho3 hB3); clear hown hg ho3 hB3)
      | (at_builtin; go_loud (refine wpList_append_sl rfl (.tmp 13) (.tmp 17) 31 rfl w.heap.size _ Try.underlying31 info_u8 _ [] rfl (H3.out.1.alloc _) _ (some ⟨w3.heap.size, 0, none⟩) 1 1 [n] rfl (Sl.one _ _ (by omega)) (by simp) (by have := H3.out.2.size; simp; omega) ?_; intro v4 w4 hown4 hg4 hat4; have hB4 : Below w.heap.size w w4 := (H3.out.2.alloc H3.out.2.size _).grown hg4 (by have := H3.out.2.size; simp; omega) (fun k hk => (H3.out.1.at_base hk).1); have H4 := Lib.hid (And.intro hown4 hB4); clear hown4 hB4 hg4 hat4 H3))
      | fail)
    go_loopw [3, 5, 21] (fun u _ i wx => ∃ k : Nat, k ≤ n ∧ i = .int .i64 (k : Int) ∧ OwnB wx w.heap.size 5 u (n :: mNums (l.take k)) ∧ Below w.heap.size w wx) (fun _ _ i _ => n - (intOf i).toNat)
    case atStart => exact ⟨0, Nat.zero_le _, rfl, H4.out.1, H4.out.2⟩
    case round =>
      obtain ⟨k, hk, rfl, ho, hb⟩ := hrel
      by_cases hlt : k < n
      · obtain ⟨b, o, rfl, hbl, hc⟩ := HR.out.1.at_ (by omega)
        have c0 := (hb.cell (p := ⟨b, o + k, none⟩) hbl).trans (hc k (by omega))
        simp only [intsC, Nat.mul_one] at c0
        have hlk : k < l.length := by have := HR.out.2.1; omega
        have hmem : l.getD k 0 ∈ l := by rw [List.getD_eq_getElem?_getD, List.getElem?_eq_getElem hlk]; exact List.getElem_mem _
        have hx := HR.out.2.2 _ hmem
        have htk : l.take (k + 1) = l.take k ++ [l.getD k 0] := by rw [List.take_succ_eq_append_getElem hlk, List.getD_eq_getElem?_getD, List.getElem?_eq_getElem hlk]; rfl
        have Hnx : Hid (mNums (l.take (k + 1)) = mNums (l.take k) ++ be 4 (l.getD k 0).toNat) := by show _ = _; rw [htk, mNums_snoc]
        generalize l.getD k 0 = x at *
        obtain ⟨y, rfl⟩ := Int.eq_ofNat_of_zero_le hx.1
        have w1 : IntKind.u32.wrap ((y : Nat) : Int) = (y : Int) := by rw [IntKind.wrap_u32']; omega
        have w2 : ((y : Nat) : Int) % 4294967296 = (y : Int) := by omega
        have hlen : (n :: mNums (l.take k)).length ≤ 1000000 := by have h1 := mNums_len (l.take k); have h2 := List.length_take_le k l; simp only [List.length_cons]; omega
        have WR := Lib.hid (mwrite_any w.heap.size _ _ y wr ho hb.size (by omega) hlen)
        have HB := Lib.hid (And.intro hb ho)
        clear hc hb hmem htk ho hx hlen
        go_wp2_with fail
        refine WR.out.mono ?_
        rintro e w5 ⟨v5, rfl, ho5, hg5, hat5⟩
        have hB5 : Below w.heap.size w w5 := HB.out.1.grown hg5 HB.out.1.size (fun k hk => (HB.out.2.at_base hk).1)
        have H5 := Lib.hid (And.intro ho5 hB5)
        clear ho5 hB5 hg5 hat5 WR
        go_wp2
        go_roundw
        case rel => exact ⟨k + 1, by omega, by go_num, by rw [Hnx.out]; exact H5.out.1, H5.out.2⟩
        case measure => simp [intOf]; omega
      · have hkn : k = n := by omega
        subst hkn
        have hms : k :: mNums (l.take k) = mSum l := by rw [List.take_of_length_le (by have := HR.out.2.1; omega)]; unfold mSum; rw [HR.out.2.1]
        rw [hms] at ho
        have hbb : ∀ c ∈ mSum l, c < 256 := by
          intro c hc
          rcases List.mem_cons.1 hc with rfl | h
          · have := HR.out.2.1; omega
          · exact mNums_byte l c h
        have hsl : (mSum l).length ≤ 1000000 := by have h1 := mNums_len l; have h2 := HR.out.2.1; unfold mSum; simp only [List.length_cons]; omega
        obtain ⟨a5, cap5, rfl, hs5⟩ := ho.sl hbb
        have hml := more_lt 0 (mSum l)
        have Hraw : Hid (mPut l = mSum l ++ be 4 (more 0 (mSum l))) := by show _ = _; rw [hp.out]; rfl
        generalize mSum l = ms at *
        generalize hml0 : more 0 ms = m at *
        have HM := Lib.hid hml0
        have OF := Lib.hid (of_any a5 ms.length cap5 ms wr hs5)
        have H5 := Lib.hid (And.intro ho hb)
        clear ho hb hs5 hbb hms hml0
        go_wp2_with fail
        refine OF.out.mono ?_
        rintro e w6 ⟨rfl, hb6⟩
        rw [HM.out]
        have WR := Lib.hid (mwrite_any w.heap.size _ ms m w6 (H5.out.1.below hb6) (Nat.le_trans H5.out.2.size hb6.size) (by omega) hsl)
        have H6 := Lib.hid (And.intro (H5.out.1.below hb6) (H5.out.2.trans (hb6.mono H5.out.2.size)))
        clear hb6 OF
        go_wp2_with fail
        refine WR.out.mono ?_
        rintro e w7 ⟨v7, rfl, ho7, hg7, hat7⟩
        have hB7 : Below w.heap.size w w7 := H6.out.2.grown hg7 H6.out.2.size (fun k hk => (H6.out.1.at_base hk).1)
        have H7 := Lib.hid (And.intro ho7 hB7)
        clear ho7 hB7 hg7 hat7 WR
        go_wp2
        go_ret
        exact ⟨_, rfl, by rw [Hraw.out]; exact H7.out.1, H7.out.2⟩
  · have hno : mOk l = false := by simpa using hok
    rw [hno] at R
    have hp : Hid (mPut l = []) := by show _ = _; unfold mPut; rw [if_neg hok]
    go_enter Try.func29, Try.ntmps29
    go_wp2_with fail
    refine R.out.mono ?_
    rintro e w1 ⟨rfl, rfl⟩
    go_wp2
    go_ret
    exact ⟨_, rfl, by rw [hp.out]; exact OwnB.nil_ _ _ _, Below.refl _ _⟩
end Go.Proofs.Ytkklofchgmbdnaa
