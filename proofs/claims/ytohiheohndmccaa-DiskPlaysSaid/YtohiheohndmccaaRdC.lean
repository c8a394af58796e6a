/- The reference's disk: Name, Used, Synced, Read, List. -/
import Derived.Test.YtohiheohndmccaaRdB
import Derived.Test.YtohiheohndmccaaOwI
import Derived.Test.YtohiheohndmccaaDkS
import Derived.Deep.CutRange
namespace Go.Proofs.Ytohiheohndmccaa
open Go.RowKit Go.Sort
open Go.Maps
attribute [local go_sem] Oper.semAt_some

set_option linter.unusedSimpArgs false in
set_option maxRecDepth 100000 in
set_option maxHeartbeats 1600000 in
theorem rname_any (s : ByteArray) (hs : s.size ≤ maxLen) (w : World) : Calls Try.prog 47 #[.string s] w fun e w' => e = .returned (.bool (nmOk s.data.toList)) ∧ w = w' := by
  unfold maxLen at hs
  have hlen : s.data.toList.length = s.size := by simp
  have Hn : Hid (nmOk s.data.toList = (decide (1 ≤ s.size ∧ s.size ≤ 16) && s.data.toList.all fun c => chOk c.toNat)) := by
    show _ = _
    unfold nmOk
    rw [hlen]
  go_enter Try.func47, Try.ntmps47
  go_wp2_with fail
  go_loopw [3, 4] (fun i _ wr => ∃ k : Nat, k ≤ s.size ∧ i = .int .i64 (k : Int) ∧ ((s.data.toList.take k).all fun c => chOk c.toNat) = true ∧ wr = w) (fun i _ _ => s.size - (intOf i).toNat)
  case atStart => exact ⟨0, Nat.zero_le _, rfl, rfl, rfl⟩
  case round =>
    obtain ⟨k, hk, rfl, hall, rfl⟩ := hrel
    by_cases hlt : k < s.size
    · have hts : s.data.toList.take (k + 1) = s.data.toList.take k ++ [s[k]] := by
        rw [List.take_succ_eq_append_getElem (by simpa using hlt)]; rfl
      have Ha : Hid (((s.data.toList.take (k + 1)).all fun c => chOk c.toNat) = chOk s[k].toNat) := by
        show _ = _
        rw [hts, List.all_append, hall]; simp
      have Hf : Hid (chOk s[k].toNat = false → (s.data.toList.all fun c => chOk c.toNat) = false) := by
        intro hf
        rw [List.all_eq_false]
        exact ⟨s[k], by have : s[k] = s.data.toList[k]'(by simpa using hlt) := rfl
                        rw [this]; exact List.getElem_mem _, by simp [hf]⟩
      clear hts hall
      go_upto_region 5 with fail
      go_cut [36] from 14 to 36 (fun v wx => v = .bool (!chOk s[k].toNat) ∧ wx = wr)
      case first =>
        clear Ha Hf Hn
        generalize s[k].toNat = cc at *
        by_cases g1 : 97 ≤ cc
        · by_cases g2 : cc ≤ 122
          · have f1 : decide ((97 : Int) ≤ (cc : Int)) = true := by simp <;> omega
            have f2 : decide ((cc : Int) ≤ 122) = true := by simp <;> omega
            have Hv := Lib.hid (show chOk cc = true by unfold chOk; simp <;> omega)
            clear g1 g2
            go_wp2
            go_meet
            case rel => exact ⟨congrArg Value.bool (by rw [Hv.out]; rfl), rfl⟩
          · have g3 : 48 ≤ cc := by omega
            have f1 : decide ((97 : Int) ≤ (cc : Int)) = true := by simp <;> omega
            have f2 : decide ((cc : Int) ≤ 122) = false := by simp <;> omega
            have f3 : decide ((48 : Int) ≤ (cc : Int)) = true := by simp <;> omega
            have f4 : decide ((cc : Int) ≤ 57) = false := by simp <;> omega
            have f5 : ((cc : Int) == 46) = false := by simp <;> omega
            have f6 : ((cc : Int) == 45) = false := by simp <;> omega
            have Hv := Lib.hid (show chOk cc = false by unfold chOk; simp <;> omega)
            clear g1 g2 g3
            go_wp2
            go_meet
            case rel => exact ⟨congrArg Value.bool (by rw [Hv.out]; rfl), rfl⟩
        · by_cases g3 : 48 ≤ cc
          · by_cases g4 : cc ≤ 57
            · have f1 : decide ((97 : Int) ≤ (cc : Int)) = false := by simp <;> omega
              have f3 : decide ((48 : Int) ≤ (cc : Int)) = true := by simp <;> omega
              have f4 : decide ((cc : Int) ≤ 57) = true := by simp <;> omega
              have Hv := Lib.hid (show chOk cc = true by unfold chOk; simp <;> omega)
              clear g1 g3 g4
              go_wp2
              go_meet
              case rel => exact ⟨congrArg Value.bool (by rw [Hv.out]; rfl), rfl⟩
            · have f1 : decide ((97 : Int) ≤ (cc : Int)) = false := by simp <;> omega
              have f3 : decide ((48 : Int) ≤ (cc : Int)) = true := by simp <;> omega
              have f4 : decide ((cc : Int) ≤ 57) = false := by simp <;> omega
              have f5 : ((cc : Int) == 46) = false := by simp <;> omega
              have f6 : ((cc : Int) == 45) = false := by simp <;> omega
              have Hv := Lib.hid (show chOk cc = false by unfold chOk; simp <;> omega)
              clear g1 g3 g4
              go_wp2
              go_meet
              case rel => exact ⟨congrArg Value.bool (by rw [Hv.out]; rfl), rfl⟩
          · by_cases g5 : cc = 46
            · have f1 : decide ((97 : Int) ≤ (cc : Int)) = false := by simp <;> omega
              have f3 : decide ((48 : Int) ≤ (cc : Int)) = false := by simp <;> omega
              have f5 : ((cc : Int) == 46) = true := by simp <;> omega
              have Hv := Lib.hid (show chOk cc = true by unfold chOk; simp <;> omega)
              clear g1 g3 g5
              go_wp2
              go_meet
              case rel => exact ⟨congrArg Value.bool (by rw [Hv.out]; rfl), rfl⟩
            · by_cases g6 : cc = 45
              · have f1 : decide ((97 : Int) ≤ (cc : Int)) = false := by simp <;> omega
                have f3 : decide ((48 : Int) ≤ (cc : Int)) = false := by simp <;> omega
                have f5 : ((cc : Int) == 46) = false := by simp <;> omega
                have f6 : ((cc : Int) == 45) = true := by simp <;> omega
                have Hv := Lib.hid (show chOk cc = true by unfold chOk; simp <;> omega)
                clear g1 g3 g5 g6
                go_wp2
                go_meet
                case rel => exact ⟨congrArg Value.bool (by rw [Hv.out]; rfl), rfl⟩
              · have f1 : decide ((97 : Int) ≤ (cc : Int)) = false := by simp <;> omega
                have f3 : decide ((48 : Int) ≤ (cc : Int)) = false := by simp <;> omega
                have f5 : ((cc : Int) == 46) = false := by simp <;> omega
                have f6 : ((cc : Int) == 45) = false := by simp <;> omega
                have Hv := Lib.hid (show chOk cc = false by unfold chOk; simp <;> omega)
                clear g1 g3 g5 g6
                go_wp2
                go_meet
                case rel => exact ⟨congrArg Value.bool (by rw [Hv.out]; rfl), rfl⟩
      case rest =>
        obtain ⟨rfl, rfl⟩ := hcut
        cases hb : chOk s[k].toNat
        · have Hr := Lib.hid (show nmOk s.data.toList = false by rw [Hn.out, Hf.out hb, Bool.and_false])
          clear hb Ha Hf Hn
          go_wp2
          go_ret
          exact ⟨ret_bool Hr.out.symm, rfl⟩
        · have Ha := Lib.hid (Ha.out.trans hb)
          clear hb Hf
          go_wp2
          go_roundw
          case rel => exact ⟨k + 1, by omega, by go_num, Ha.out, by trivial⟩
          case measure => simp [intOf]; omega
    · have hkn : k = s.size := by omega
      subst hkn
      rw [List.take_of_length_le (by simp)] at hall
      have Hr := Lib.hid (show nmOk s.data.toList = decide (1 ≤ s.size ∧ s.size ≤ 16) by rw [Hn.out, hall, Bool.and_true])
      clear hall Hn
      by_cases h1 : 1 ≤ s.size
      · by_cases h2 : s.size ≤ 16
        · go_wp2
          go_ret
          exact ⟨ret_bool (by rw [Hr.out]; simp [h1, h2] <;> omega), rfl⟩
        · go_wp2
          go_ret
          exact ⟨ret_bool (by rw [Hr.out]; simp [h2] <;> omega), rfl⟩
      · go_wp2
        go_ret
        exact ⟨ret_bool (by rw [Hr.out]; simp [h1] <;> omega), rfl⟩

section
variable {w : World} {rp : Nat} {t : St} {O : Nat → Prop} {a : Option Addr} {c : Nat} {es : List REnt}
theorem RdC.len_ (h : RdC w rp t O a c es) : es.length ≤ 64 := by
  have h1 := h.good.size_
  rw [h.D_, rD_size] at h1
  exact h1
theorem sum_take_le (es : List REnt) : ∀ k, ((es.take k).map fun e => e.bs.length).sum ≤ (es.map fun e => e.bs.length).sum := by
  induction es with
  | nil => intro k; simp
  | cons e es ih =>
    intro k
    cases k with
    | zero => simp
    | succ k => have := ih k; simp only [List.take_succ_cons, List.map_cons, List.sum_cons]; omega
set_option linter.unusedSimpArgs false in
set_option maxRecDepth 100000 in
set_option maxHeartbeats 1600000 in
theorem rused_any (h : RdC w rp t O a c es) : Calls Try.prog 16 #[.pointer (some ⟨rp, 0, none⟩)] w fun e w' => e = .returned (.int .i64 ((tot t.D : Nat) : Int)) ∧ w = w' := by
  have c1 := h.cell.2.1
  have hcap := h.len_
  have HT : Hid (tot t.D = (es.map fun e => e.bs.length).sum) := by show _ = _; rw [h.D_, rD_tot]
  have hmx : (es.map fun e => e.bs.length).sum ≤ 1048576 := by
    have h1 := h.good.tot_
    have h2 := h.good.room_
    rw [HT.out] at h1
    omega
  have HS := Lib.hid (And.intro (sum_take_le es) hmx)
  have HH := Lib.hid h
  clear h hmx
  obtain ⟨n, hn⟩ : ∃ n, n = es.length := ⟨_, rfl⟩
  rw [← hn] at c1 hcap
  have HN := Lib.hid hn
  clear hn
  go_enter Try.func16, Try.ntmps16
  go_wp2_with fail
  go_loopw [3, 4] (fun v i wr => ∃ (k u : Nat), k ≤ n ∧ i = .int .i64 (k : Int) ∧ v = .int .i64 (u : Int) ∧ u = ((es.take k).map fun e => e.bs.length).sum ∧ wr = w) (fun _ i _ => n - (intOf i).toNat)
  case atStart => exact ⟨0, 0, Nat.zero_le _, rfl, rfl, by simp, rfl⟩
  case round =>
    obtain ⟨k, u, hk, rfl, rfl, hu, rfl⟩ := hrel
    by_cases hlt : k < n
    · obtain ⟨g, hg, _, _, _, _, _, hc⟩ := HH.out.at_ (by have := HN.out; omega)
      subst hg
      have hke : k < es.length := by have := HN.out; omega
      have q1 := (hc k es[k] (List.getElem?_eq_getElem hke)).2.1
      have hst : ((es.take (k + 1)).map fun e => e.bs.length).sum = u + es[k].bs.length := by rw [List.take_succ_eq_append_getElem hke, List.map_append, List.sum_append, ← hu]; simp only [List.map_cons, List.map_nil, List.sum_cons, List.sum_nil, Nat.add_zero]
      have hle := HS.out.1 (k + 1)
      have hle2 := HS.out.2
      rw [hst] at hle
      obtain ⟨e0, he0⟩ : ∃ e0, e0 = es[k] := ⟨_, rfl⟩
      rw [← he0] at q1 hst hle
      obtain ⟨m, hm⟩ : ∃ m, m = e0.bs.length := ⟨_, rfl⟩
      rw [← hm] at q1 hst hle
      have hw : IntKind.i64.wrap ((u : Int) + (m : Int)) = ((u + m : Nat) : Int) := by rw [IntKind.wrap_i64]; omega
      have Hst := Lib.hid hst
      clear hc hu he0 hke hm hst
      go_wp2
      go_roundw
      case rel => exact ⟨k + 1, u + m, by omega, by go_num, rfl, Hst.out.symm, by trivial⟩
      case measure => simp [intOf]; omega
    · have hkn : k = n := by omega
      have Hu := Lib.hid (show u = tot t.D by rw [hu, List.take_of_length_le (by have := HN.out; omega), HT.out])
      clear hu
      go_wp2
      go_ret
      exact ⟨ret_i64 (by rw [Hu.out]), rfl⟩
theorem RdC.here (h : RdC w rp t O a c es) {s : List UInt8} (hi : ridx es s < es.length) : ∃ e g, es[ridx es s]? = some e ∧ fat t.D s = some e.fl ∧ a = some ⟨g, 0, none⟩ ∧ g < w.heap.size ∧ w.cell? ⟨g, ridx es s * 3, none⟩ = some (.string ⟨e.s.toArray⟩) ∧ w.cell? ⟨g, ridx es s * 3 + 1, none⟩ = some (.slice e.a e.bs.length e.c) ∧ w.cell? ⟨g, ridx es s * 3 + 2, none⟩ = some (.int .i64 (e.l : Int)) ∧ Sl w w.heap.size e.a e.bs.length e.c e.bs := by
  obtain ⟨g, hg, _, _, hlt, _, _, hc⟩ := h.at_ (by omega)
  have he := List.getElem?_eq_getElem hi
  obtain ⟨q0, q1, q2⟩ := hc _ _ he
  refine ⟨_, g, he, ?_, hg, hlt, q0, q1, q2, (h.bytes _ (List.mem_of_getElem? he)).1⟩
  rw [h.D_, ridx_fat, he]
  rfl
theorem RdC.gone_ (h : RdC w rp t O a c es) {s : List UInt8} (hi : ¬ ridx es s < es.length) : fat t.D s = none := by
  rw [h.D_, ridx_fat, List.getElem?_eq_none (by omega)]
  rfl
set_option maxRecDepth 100000 in
theorem rsynced_any (h : RdC w rp t O a c es) (s : ByteArray) : Calls Try.prog 18 #[.pointer (some ⟨rp, 0, none⟩), .string s] w fun e w' => e = .returned (.int .i64 (((fat t.D s.data.toList).getD Fl.zero).l : Int)) ∧ w = w' := by
  have AT := rat_any h s
  have c1 := h.cell.2.1
  have hcap := h.len_
  by_cases hi : ridx es s.data.toList < es.length
  · obtain ⟨e, g, _, hf, hg, _, _, _, q2, _⟩ := h.here hi
    subst hg
    rw [hf]
    unfold ratI at AT
    rw [if_pos hi] at AT
    generalize ridx es s.data.toList = k at *
    have AT := Lib.hid AT
    obtain ⟨n, hn⟩ : ∃ n, n = es.length := ⟨_, rfl⟩
    rw [← hn] at c1 hi hcap
    clear h hn
    go_enter Try.func18, Try.ntmps18
    go_wp2_with fail
    refine AT.out.mono ?_
    rintro e1 w1 ⟨rfl, rfl⟩
    go_wp2
    go_ret
    exact ⟨rfl, rfl⟩
  · rw [h.gone_ hi]
    unfold ratI at AT
    rw [if_neg hi] at AT
    have AT := Lib.hid AT
    clear h
    go_enter Try.func18, Try.ntmps18
    go_wp2_with fail
    refine AT.out.mono ?_
    rintro e1 w1 ⟨rfl, rfl⟩
    go_wp2
    go_ret
    exact ⟨rfl, rfl⟩
set_option maxRecDepth 100000 in
set_option maxHeartbeats 1600000 in
theorem rread1_any (h : RdC w rp t O a c es) (s : ByteArray) : Calls Try.prog 11 #[.pointer (some ⟨rp, 0, none⟩), .string s] w (NewBytes w ((fat t.D s.data.toList).getD Fl.zero).bs (fat t.D s.data.toList).isSome) := by
  have AT := rat_any h s
  have c1 := h.cell.2.1
  have hcap := h.len_
  by_cases hi : ridx es s.data.toList < es.length
  · obtain ⟨e, g, _, hf, hg, hgl, _, q1, _, hs⟩ := h.here hi
    subst hg
    have hbl : e.bs.length ≤ 1048576 := by
      have h1 := (h.good.at_ hf).2.2.2
      have h2 := h.good.tot_
      have h3 := h.good.room_
      exact Nat.le_trans h1 (Nat.le_trans h2 h3)
    have hrl := block_lt_of_cell c1
    rw [hf]
    unfold ratI at AT
    rw [if_pos hi] at AT
    generalize ridx es s.data.toList = k at *
    have AT := Lib.hid AT
    obtain ⟨n, hn⟩ : ∃ n, n = es.length := ⟨_, rfl⟩
    rw [← hn] at c1 hi hcap
    show Calls _ _ _ _ (NewBytes w e.bs true)
    obtain ⟨m, hm⟩ : ∃ m, m = e.bs.length := ⟨_, rfl⟩
    rw [← hm] at q1 hs hbl
    have Hm := Lib.hid hm
    have hB : Below w.heap.size w (w.alloc (.cells #[] 5)) := (Below.refl _ _).alloc (Nat.le_refl _) _
    have k1 := (hB.cell (p := ⟨rp, 1, none⟩) hrl).trans c1
    have k2 := (hB.cell (p := ⟨g, k * 3 + 1, none⟩) hgl).trans q1
    have hown : OwnB (w.alloc (.cells #[] 5)) w.heap.size 5 (.slice (some ⟨w.heap.size, 0, none⟩) 0 0) [] := OwnB.lit _ [] (Nat.le_refl _) (by decide)
    have H4 := Lib.hid (And.intro hown (hs.below hB (Nat.le_refl _)))
    clear h hn hf hm hown hs hB c1 q1
    go_enter Try.func11, Try.ntmps11
    go_wp2_with fail
    refine AT.out.mono ?_
    rintro e1 w1 ⟨rfl, rfl⟩
    go_wp2_with (first
      | (at_builtin; refine wpList_append_sl rfl _ _ 31 rfl w.heap.size _ Try.underlying31 info_u8 (.slice (some ⟨w.heap.size, 0, none⟩) 0 0) [] rfl H4.out.1 _ e.a m e.c e.bs rfl H4.out.2 (by simp; omega) (by simp) ?_; intro v5 w5 ho5 hg5 hat5; rw [List.nil_append] at ho5; have hB5 : Below w.heap.size w w5 := ((Below.refl _ w).alloc (Nat.le_refl _) (.cells #[] 5)).grown hg5 (by simp) (fun k hk => by simp [Value.ownBlock] at hk; omega); have H5 := Lib.hid (And.intro ho5 hB5); clear ho5 hB5 hg5 hat5)
      | fail)
    obtain ⟨a5, c5, hv5⟩ : ∃ a5 c5, v5 = .slice a5 e.bs.length c5 := by
      rcases H5.out.1.2 with ⟨h1, h2⟩ | ⟨g1, cap1, _, h1, _⟩
      · exact ⟨none, 0, by rw [h1, h2]⟩
      · exact ⟨_, cap1, h1⟩
    subst hv5
    go_wp2
    go_ret2
    exact ⟨a5, c5, rfl, H5.out.1, H5.out.2⟩
  · rw [h.gone_ hi]
    unfold ratI at AT
    rw [if_neg hi] at AT
    have AT := Lib.hid AT
    clear h
    go_enter Try.func11, Try.ntmps11
    go_wp2_with fail
    refine AT.out.mono ?_
    rintro e1 w1 ⟨rfl, rfl⟩
    go_wp2
    go_ret2
    exact ⟨none, 0, rfl, OwnB.nil_ _ _ _, Below.refl _ _⟩
end
end Go.Proofs.Ytohiheohndmccaa
