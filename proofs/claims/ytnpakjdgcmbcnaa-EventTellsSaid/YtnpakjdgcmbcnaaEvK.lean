/- Right, Put. -/
import Derived.Test.YtnpakjdgcmbcnaaEvJ
import Derived.Test.YtnpakjdgcmbcnaaEvZb
namespace Go.Proofs.Ytnpakjdgcmbcnaa
open Go.RowKit
open Wir Evn
attribute [local go_sem] Oper.semAt_some

theorem cfields_any {w0 w : World} {b : Nat} {T : TypeId} {e : Ev} {a1 a2 a3 : Option Addr} {c1 c2 c3 : Nat} (h : CB w0 w b T (evC e a1 a2 a3 c1 c2 c3)) :
    Calls Try.prog 21 #[.iface 61 (.agg #[]), .pointer (some ⟨b, 0, none⟩)] w fun r w' => r = .returned (.tuple #[]) ∧ ∃ d1 d2 d3 f1 f2 f3, CB w0 w' b T (evC (clearE e) d1 d2 d3 f1 f2 f3) := by
  by_cases hk : 1 ≤ e.kind ∧ e.kind ≤ 8
  · have : e.kind = 1 ∨ e.kind = 2 ∨ e.kind = 3 ∨ e.kind = 4 ∨ e.kind = 5 ∨ e.kind = 6 ∨ e.kind = 7 ∨ e.kind = 8 := by omega
    rcases this with hk | hk | hk | hk | hk | hk | hk | hk
    · exact cfields1 h hk
    · exact cfields2 h hk
    · exact cfields3 h hk
    · exact cfields4 h hk
    · exact cfields5 h hk
    · exact cfields6 h hk
    · exact cfields7 h hk
    · exact cfields8 h hk
  · exact cfields0 h hk
theorem wfields_any {T U : TypeId} {w : World} {p b : Nat} {bs : List Nat} {O : Nat → Prop} {e : Ev} {a1 a2 a3 : Option Addr} {c1 c2 c3 : Nat} (h : Wtr T w p bs O) (hc : w.heap[b]? = some (.cells (evC e a1 a2 a3 c1 c2 c3) U (0, 0))) (hb : ¬ O b) (hm : EvM w a1 a2 a3 c1 c2 c3 e) (hfar : EvFar O a1 a2 a3 e)
    (hn1 : e.pol.bands.length ≤ 100) (hn2 : e.pol.slots.length ≤ 100) (hn3 : e.body.length ≤ 100000) (hlen : bs.length ≤ 900) (hk : 1 ≤ e.kind ∧ e.kind ≤ 8) :
    Calls Try.prog 21 #[.iface 73 (.pointer (some ⟨p, 0, none⟩)), .pointer (some ⟨b, 0, none⟩)] w fun r w' => r = .returned (.tuple #[]) ∧ WMv T w p (bs ++ code e) O w' := by
  have : e.kind = 1 ∨ e.kind = 2 ∨ e.kind = 3 ∨ e.kind = 4 ∨ e.kind = 5 ∨ e.kind = 6 ∨ e.kind = 7 ∨ e.kind = 8 := by omega
  rcases this with hk | hk | hk | hk | hk | hk | hk | hk
  · exact wfields1 h hc hb hm hfar hn1 hn2 hn3 hlen hk
  · exact wfields2 h hc hb hm hfar hn1 hn2 hn3 hlen hk
  · exact wfields3 h hc hb hm hfar hn1 hn2 hn3 hlen hk
  · exact wfields4 h hc hb hm hfar hn1 hn2 hn3 hlen hk
  · exact wfields5 h hc hb hm hfar hn1 hn2 hn3 hlen hk
  · exact wfields6 h hc hb hm hfar hn1 hn2 hn3 hlen hk
  · exact wfields7 h hc hb hm hfar hn1 hn2 hn3 hlen hk
  · exact wfields8 h hc hb hm hfar hn1 hn2 hn3 hlen hk
theorem right_kind {e : Ev} (h : rightR e = true) : 1 ≤ e.kind ∧ e.kind ≤ 8 := by
  refine Classical.byContradiction fun hn => ?_
  have hb : boundedR e = false := by unfold boundedR; rw [if_neg (by omega), if_neg (by omega), if_neg (by omega), if_neg (by omega), if_neg (by omega), if_neg (by omega)]
  unfold rightR at h
  rw [hb] at h
  cases h
set_option linter.unusedSimpArgs false in
set_option maxRecDepth 100000 in
set_option maxHeartbeats 6400000 in
theorem right_any {w : World} {a1 a2 a3 : Option Addr} {c1 c2 c3 : Nat} (e : Ev) (h1 : PRow w a1 e.pol.bands.length c1 e.pol.bands) (h2 : PRow w a2 e.pol.slots.length c2 e.pol.slots) :
    Calls Try.prog 9 #[evV e a1 a2 a3 c1 c2 c3] w fun r w' => r = .returned (.bool (rightR e)) ∧ Below w.heap.size w w' := by
  have HB : Hid ((w.alloc (.cells (evC e a1 a2 a3 c1 c2 c3) 30)).heap[w.heap.size]? = some (.cells (evC e a1 a2 a3 c1 c2 c3) 30 (0, 0))) := heap_alloc_new _ _
  have HA := Lib.hid (bel1 (Below.refl w.heap.size w) (.cells (evC e a1 a2 a3 c1 c2 c3) 30))
  have CB1 := Lib.hid (bounded_any (a3 := a3) (c3 := c3) e (h1.on HA.out) (h2.on HA.out))
  clear h1 h2
  unfold evV
  go_enter Try.func9, Try.ntmps9
  go_wp2_with (refine wpList_load_row (by rfl) 30 (.tmp 1) (by rfl) w.heap.size (by rfl) 30 (evC e a1 a2 a3 c1 c2 c3) (0, 0) _ HB.out Try.underlying30 (by rfl) (by kernel_rfl) ?_)
  refine CB1.out.mono ?_
  rintro r w1 ⟨rfl, h1⟩
  have hB1 := (h1.block w.heap.size (by simp)).trans HB.out
  have H1 := Lib.hid (bel2 HA.out h1)
  have HB1 := Lib.hid hB1
  clear h1 hB1 CB1 HB HA
  cases hx : boundedR e
  · have HX := Lib.hid hx
    clear hx
    go_wp2
    go_ret
    exact ⟨ret_bool (by unfold rightR; rw [HX.out]; rfl), H1.out⟩
  have HX := Lib.hid hx
  clear hx
  go_wp2_with fail
  refine (cfields_any (CB.start HB1.out)).mono ?_
  rintro r w2 ⟨rfl, d1, d2, d3, f1, f2, f3, h2⟩
  have H2 := Lib.hid h2
  have HB2 := Lib.hid (show Below w.heap.size w w2 from H1.out.trans (h2.but.below H1.out.size (fun k hk => by rw [hk]; exact Nat.le_refl _)))
  clear h2
  go_wp2_with (refine wpList_load_row (by rfl) 30 (.tmp 1) (by rfl) w.heap.size (by rfl) 30 (evC (clearE e) d1 d2 d3 f1 f2 f3) (0, 0) _ H2.out.cells Try.underlying30 (by rfl) (by kernel_rfl) ?_)
  refine (nothing_any (clearE e) d1 d2 d3 f1 f2 f3 _).mono ?_
  rintro r w3 ⟨rfl, h3⟩
  have H3 := Lib.hid (bel2 HB2.out h3)
  clear h3
  go_wp2
  go_ret
  exact ⟨ret_bool (by unfold rightR; rw [HX.out]; rfl), H3.out⟩
theorem code_len {e : Ev} (h : Ev64 e) (h1 : e.pol.bands.length ≤ 100) (h2 : e.pol.slots.length ≤ 100) (h3 : e.body.length ≤ 100000) : (code e).length ≤ 2000000000 := by
  have n1 := h.nums
  have p1 := h.pol
  have hb : I64 (e.pol.bands.length : Int) := ⟨by omega, by omega⟩
  have hs : I64 (e.pol.slots.length : Int) := ⟨by omega, by omega⟩
  have hN : All64 (e.id :: polN e.pol) := by
    intro x hx
    simp only [polN, List.mem_cons, List.mem_append, List.not_mem_nil, or_false] at hx
    rcases hx with rfl | (rfl | rfl | rfl) | hx | (rfl | rfl | rfl | rfl | rfl) | hx
    · exact n1 _ (by simp)
    · exact p1 _ (by simp)
    · exact p1 _ (by simp)
    · exact hb
    · exact h.bands x hx
    · exact p1 _ (by simp)
    · exact p1 _ (by simp)
    · exact p1 _ (by simp)
    · exact p1 _ (by simp)
    · exact hs
    · exact h.slots x hx
  unfold code
  split
  · have := nb_len [e.util, e.demand] (all_sub n1 (by simp)); simp only [List.length_cons, List.length_nil] at this; omega
  split
  · have := nb_len [e.t] (all_sub n1 (by simp)); simp only [List.length_cons, List.length_nil] at this; omega
  split
  · have := nb_len _ hN
    have hl : (e.id :: polN e.pol).length ≤ 500 := by
      simp only [polN, List.length_cons, List.length_append, List.length_nil, pairs_len]; omega
    omega
  split
  · have := nb_len _ h.conf; simp only [confN, List.length_cons, List.length_nil] at this ⊢; omega
  split
  · have := nb_len [e.t, e.n] (all_sub n1 (by simp)); simp only [List.length_cons, List.length_nil] at this; omega
  split
  · have := nb_len [e.id] (all_sub n1 (by simp)); simp only [List.length_cons, List.length_nil] at this; omega
  split
  · have := dg_le (cnt_lt (n := (e.body.length : Int)) (by omega) (by omega)); rw [List.length_append]; omega
  · simp
set_option linter.unusedSimpArgs false in
set_option maxRecDepth 100000 in
set_option maxHeartbeats 6400000 in
theorem put_any {w : World} {a1 a2 a3 : Option Addr} {c1 c2 c3 : Nat} (e : Ev) (hm : EvM w a1 a2 a3 c1 c2 c3 e) (hn1 : e.pol.bands.length ≤ 100) (hn2 : e.pol.slots.length ≤ 100) (hn3 : e.body.length ≤ 100000) :
    Calls Try.prog 15 #[evV e a1 a2 a3 c1 c2 c3] w fun r w' => ∃ a c, r = .returned (.slice a (putR e).length c) ∧ Sl w' w'.heap.size a (putR e).length c (putR e) ∧ Below w.heap.size w w' := by
  have HB : Hid ((w.alloc (.cells (evC e a1 a2 a3 c1 c2 c3) 30)).heap[w.heap.size]? = some (.cells (evC e a1 a2 a3 c1 c2 c3) 30 (0, 0))) := heap_alloc_new _ _
  have HA := Lib.hid (bel1 (Below.refl w.heap.size w) (.cells (evC e a1 a2 a3 c1 c2 c3) 30))
  have CR := Lib.hid (right_any (a3 := a3) (c3 := c3) e (hm.bands.on HA.out) (hm.slots.on HA.out))
  have HM := Lib.hid hm
  have HN := Lib.hid (And.intro hn1 (And.intro hn2 hn3))
  have HD : Hid (putR e = if rightR e = true then (if 1800 < (code e).length then [] else code e) else []) := rfl
  generalize putR e = pr at HD ⊢
  clear hm hn1 hn2 hn3
  have CRu := CR
  unfold evV at CRu
  clear CR
  unfold evV
  go_enter Try.func15, Try.ntmps15
  go_wp2_with (refine wpList_load_row (by rfl) 30 (.tmp 1) (by rfl) w.heap.size (by rfl) 30 (evC e a1 a2 a3 c1 c2 c3) (0, 0) _ HB.out Try.underlying30 (by rfl) (by kernel_rfl) ?_)
  refine CRu.out.mono ?_
  rintro r w1 ⟨rfl, h1⟩
  have hB1 := (h1.block w.heap.size (by simp)).trans HB.out
  have H1 := Lib.hid (bel2 HA.out h1)
  have HB1 := Lib.hid hB1
  clear h1 hB1 CRu HB HA
  cases hx : rightR e
  · have HX := Lib.hid hx
    clear hx
    go_wp2
    go_ret
    have e9 : pr = [] := by have := HD.out; rwa [HX.out, if_neg (by decide)] at this
    subst e9
    exact ⟨none, 0, rfl, Sl.nil_, H1.out⟩
  have HX := Lib.hid hx
  clear hx
  have hlt1 := lt_of_heap HB1.out
  have hbk : (w1.alloc (.cells #[.slice none 0 0] 72)).heap[w.heap.size]? = some (.cells (evC e a1 a2 a3 c1 c2 c3) 30 (0, 0)) := (Below.heap_alloc _ _ _ hlt1).trans HB1.out
  have hm1 := HM.out.on (bel1 H1.out (.cells #[.slice none 0 0] 72))
  have hfar : EvFar (fun k => k = w1.heap.size) a1 a2 a3 e := by
    have hs := H1.out.size
    refine ⟨fun hp k o e' ho => ?_, fun hp k o e' ho => ?_, fun hp k o e' ho => ?_⟩
    · obtain ⟨b', o', e'', hlt, _⟩ := HM.out.bands.1.at_ hp
      rw [e'] at e''; injection e'' with e''; injection e'' with e''; omega
    · obtain ⟨b', o', e'', hlt, _⟩ := HM.out.slots.1.at_ hp
      rw [e'] at e''; injection e'' with e''; injection e'' with e''; omega
    · obtain ⟨b', o', e'', hlt, _⟩ := HM.out.body.at_ hp
      rw [e'] at e''; injection e'' with e''; injection e'' with e''; omega
  have CW := Lib.hid (wfields_any (Wtr.new (T := 72) w1) hbk (by omega) hm1 hfar HN.out.1 HN.out.2.1 HN.out.2.2 (by simp) (right_kind HX.out))
  have HS := Lib.hid H1.out.size
  clear hlt1 hbk hm1 hfar
  go_wp2_with fail
  refine CW.out.mono ?_
  rintro r w2 ⟨rfl, O2, h2, h3, h4⟩
  have hb2 : Below w.heap.size w w2 := (bel1 H1.out _).trans (h3.below (by have := HS.out; simp; omega) (fun k hk => by rw [hk]; exact HS.out))
  have hlen : (code e).length ≤ 2000000000 := code_len HM.out.v64 HN.out.1 HN.out.2.1 HN.out.2.2
  rw [List.nil_append] at h2
  have H2 := Lib.hid (And.intro h2 (And.intro hb2 hlen))
  clear h2 h3 h4 hb2 hlen CW
  go_wp2_with fail
  refine (wbytes_any H2.out.1 H2.out.2.2).mono ?_
  rintro r w3 ⟨a, c, rfl, hs, hb3, _⟩
  have H3 := Lib.hid (And.intro hs (bel2 H2.out.2.1 hb3))
  clear hs hb3
  have hd := HD.out
  rw [if_pos HX.out] at hd
  by_cases hl : 1800 < (code e).length
  · have d1 : decide ((1800 : Int) < ((code e).length : Int)) = true := by simp; omega
    rw [if_pos hl] at hd
    have HE := Lib.hid hd
    clear hd hl
    go_wp2
    go_ret
    have e9 := HE.out
    subst e9
    exact ⟨none, 0, rfl, Sl.nil_, H3.out.2⟩
  · have d1 : decide ((1800 : Int) < ((code e).length : Int)) = false := by simp; omega
    rw [if_neg hl] at hd
    have HE := Lib.hid hd
    clear hd hl
    go_wp2
    go_ret
    have e9 := HE.out
    subst e9
    exact ⟨a, c, rfl, H3.out.1, H3.out.2⟩
end Go.Proofs.Ytnpakjdgcmbcnaa
