/- The document's Right. The document's Put. The document's Get. EventTells: the walk. -/
import Derived.Test.YtnpakjdgcmbcnaaTlB
import Derived.Test.YtnpakjdgcmbcnaaTlC
import Derived.Test.YtnpakjdgcmbcnaaTlA
import Derived.Test.YtnpakjdgcmbcnaaHeld
import Derived.Deep.MidRow
namespace Go.Proofs.Ytnpakjdgcmbcnaa
set_option linter.unusedVariables false
set_option linter.unusedSimpArgs false
section
open Go.RowKit
open Wir Evn
attribute [local go_sem] Oper.semAt_some
set_option linter.unusedVariables false
set_option linter.unusedSimpArgs false

theorem dright_any {w : World} {a1 a2 a3 : Option Addr} {c1 c2 c3 : Nat} (e : Ev) (h1 : PRow w a1 e.pol.bands.length c1 e.pol.bands) (h2 : PRow w a2 e.pol.slots.length c2 e.pol.slots) :
    Calls Try.prog 10 #[evV e a1 a2 a3 c1 c2 c3] w fun r w' => r = .returned (.bool (rightR e)) ∧ Below w.heap.size w w' := by
  by_cases hk : 1 ≤ e.kind ∧ e.kind ≤ 8
  · by_cases a : e.kind = 1 ∨ e.kind = 2 ∨ e.kind = 5
    · exact dright_a e h1 h2 a
    · by_cases b : e.kind = 6 ∨ e.kind = 7 ∨ e.kind = 4
      · exact dright_b e h1 h2 b
      · by_cases c : e.kind = 3
        · exact dright_c e h1 h2 c
        · exact dright_d e h1 h2 (by omega)
  · exact dright_e e h1 h2 hk
end
section
open Go.RowKit
open Wir Evn
attribute [local go_sem] Oper.semAt_some
set_option linter.unusedVariables false
set_option linter.unusedSimpArgs false

set_option maxRecDepth 100000 in
set_option maxHeartbeats 6400000 in
theorem dput_any {w : World} {a1 a2 a3 : Option Addr} {c1 c2 c3 : Nat} (e : Ev) (hm : EvM w a1 a2 a3 c1 c2 c3 e) (hn1 : e.pol.bands.length ≤ 100) (hn2 : e.pol.slots.length ≤ 100) (hn3 : e.body.length ≤ 100000) :
    Calls Try.prog 16 #[evV e a1 a2 a3 c1 c2 c3] w fun r w' => ∃ a c, r = .returned (.slice a (putR e).length c) ∧ Sl w' w'.heap.size a (putR e).length c (putR e) ∧ Below w.heap.size w w' := by
  have HB : Hid ((w.alloc (.cells (evC e a1 a2 a3 c1 c2 c3) 30)).heap[w.heap.size]? = some (.cells (evC e a1 a2 a3 c1 c2 c3) 30 (0, 0))) := heap_alloc_new _ _
  have HA := Lib.hid (bel1 (Below.refl w.heap.size w) (.cells (evC e a1 a2 a3 c1 c2 c3) 30))
  have CR := Lib.hid (dright_any (a3 := a3) (c3 := c3) e (hm.bands.on HA.out) (hm.slots.on HA.out))
  have HM := Lib.hid hm
  have HN := Lib.hid (And.intro hn1 (And.intro hn2 hn3))
  have HD : Hid (putR e = if rightR e = true then (if 1800 < (code e).length then [] else code e) else []) := rfl
  generalize putR e = pr at HD ⊢
  clear hm hn1 hn2 hn3
  have CRu := CR
  unfold evV at CRu
  clear CR
  unfold evV
  go_enter Try.func16, Try.ntmps16
  go_wp2_with (refine wpList_load_row (by rfl) 30 (.tmp 1) (by rfl) w.heap.size (by rfl) 30 (evC e a1 a2 a3 c1 c2 c3) (0, 0) _ HB.out Try.underlying30 (by rfl) (by kernel_rfl) ?_)
  refine CRu.out.mono ?_
  rintro r w1 ⟨rfl, h1⟩
  have hB1 := (h1.block w.heap.size (by simp)).trans HB.out
  have H1 := Lib.hid (bel2 HA.out h1)
  have HB1 := Lib.hid hB1
  clear h1 hB1 CRu HB HA
  cases hx : rightR e
  · have HX := Lib.hid hx
    clear hx
    go_wp2
    go_ret
    have e9 : pr = [] := by have := HD.out; rwa [HX.out, if_neg (by decide)] at this
    subst e9
    exact ⟨none, 0, rfl, Sl.nil_, H1.out⟩
  have HX := Lib.hid hx
  clear hx
  have hlt1 := lt_of_heap HB1.out
  have hbk : (w1.alloc (.cells #[.slice none 0 0] 77)).heap[w.heap.size]? = some (.cells (evC e a1 a2 a3 c1 c2 c3) 30 (0, 0)) := (Below.heap_alloc _ _ _ hlt1).trans HB1.out
  have HMn := Lib.hid (HM.out.on (bel1 H1.out (.cells #[.slice none 0 0] 77)))
  have hfar : EvFar (fun k => k = w1.heap.size ∨ w1.heap.size ≤ k) a1 a2 a3 e := by
    have hs := H1.out.size
    refine ⟨fun hp k o e' ho => ?_, fun hp k o e' ho => ?_, fun hp k o e' ho => ?_⟩
    · obtain ⟨b', o', e'', hlt, _⟩ := HM.out.bands.1.at_ hp
      rw [e'] at e''; injection e'' with e''; injection e'' with e''; omega
    · obtain ⟨b', o', e'', hlt, _⟩ := HM.out.slots.1.at_ hp
      rw [e'] at e''; injection e'' with e''; injection e'' with e''; omega
    · obtain ⟨b', o', e'', hlt, _⟩ := HM.out.body.at_ hp
      rw [e'] at e''; injection e'' with e''; injection e'' with e''; omega
  have HFr := Lib.hid hfar
  have H0 := Lib.hid (Wn.start (Wtr.new (T := 77) w1))
  have hne : ¬ (fun k => k = w1.heap.size) w.heap.size := fun h => by dsimp only at h; omega
  have HC : Hid (∀ j v, (evC e a1 a2 a3 c1 c2 c3)[j]? = some v → ∀ ks x, Wn (w1.alloc (.cells #[.slice none 0 0] 77)) w1.heap.size [] ks (fun k => k = w1.heap.size) x → x.cell? ⟨w.heap.size, j, none⟩ = some v) := fun j v hv ks x hx => hx.mv.cell (evC_cell hbk j v hv) hne
  have hlen : (code e).length ≤ 2000000000 := code_len HM.out.v64 HN.out.1 HN.out.2.1 HN.out.2.2
  have HLN := Lib.hid hlen
  have HS := Lib.hid H1.out.size
  have hkind := right_kind HX.out
  -- what is told in the end, of a writer that has the event's bytes
  have FIN : Hid (∀ x, WMv 77 (w1.alloc (.cells #[.slice none 0 0] 77)) w1.heap.size ([] ++ code e) (fun k => k = w1.heap.size) x → ∃ va vc, x.cell? ⟨w1.heap.size, 0, none⟩ = some (.slice va (code e).length vc) ∧ Sl x x.heap.size va (code e).length vc (code e) ∧ Below w.heap.size w x) := fun x hx => by
    obtain ⟨O2, ⟨v, hv⟩, hb3, h4⟩ := hx
    rw [List.nil_append] at hv
    have hown := hv.own
    obtain ⟨va, vc, rfl, hsl⟩ := hown.sl hv.byte
    exact ⟨va, vc, by rw [cell_of_row _ _ 0 _ _ _ hv.cells]; rfl, hsl, (bel1 H1.out _).trans (hb3.below (by have := HS.out; simp; omega) (fun k hk => by rw [hk]; exact HS.out))⟩
  clear hlt1 hbk hfar hne hlen
  have hkk : e.kind = 1 ∨ e.kind = 2 ∨ e.kind = 3 ∨ e.kind = 4 ∨ e.kind = 5 ∨ e.kind = 6 ∨ e.kind = 7 ∨ e.kind = 8 := by omega
  clear hkind
  rcases hkk with hk | hk | hk | hk | hk | hk | hk | hk
  · have k1 : World.cell? _ ⟨w.heap.size, 1, none⟩ = some (.int .i64 e.util) := HC.out 1 _ rfl _ _ H0.out
    have k0 : World.cell? _ ⟨w.heap.size, 0, none⟩ = some (.int .i64 e.kind) := HC.out 0 _ rfl _ _ H0.out
    go_wp2_with fail
    refine (H0.out.num e.util (HM.out.v64.nums _ (by simp)) (by simp) (by simp)).mono ?_
    rintro r x1 ⟨rfl, hh⟩
    have H1 := Lib.hid hh
    clear hh k1 k0
    have k2 : World.cell? _ ⟨w.heap.size, 2, none⟩ = some (.int .i64 e.demand) := HC.out 2 _ rfl _ _ H1.out
    go_wp2_with fail
    refine (H1.out.num e.demand (HM.out.v64.nums _ (by simp)) (by simp) (by simp)).mono ?_
    rintro r x2 ⟨rfl, hh⟩
    have H2 := Lib.hid hh
    clear hh k2
    have HF : Hid (WMv 77 (w1.alloc (.cells #[.slice none 0 0] 77)) w1.heap.size ([] ++ code e) (fun k => k = w1.heap.size) x2) := by
      show WMv _ _ _ _ _ _
      have h9 := H2.out.mv
      have hcd : code e = nb [e.util, e.demand] := by unfold code; simp [hk]
      rw [hcd]
      simpa using h9
    obtain ⟨va, vc, kw, hsl, hbl⟩ := FIN.out _ HF.out
    have HR := Lib.hid (And.intro hsl hbl)
    clear hsl hbl
    have hd := HD.out
    rw [if_pos HX.out] at hd
    by_cases hl : 1800 < (code e).length
    · have d1 : decide ((1800 : Int) < ((code e).length : Int)) = true := by simp; omega
      rw [if_pos hl] at hd
      have HE := Lib.hid hd
      clear hd hl
      go_wp2
      go_ret
      have e9 := HE.out
      subst e9
      exact ⟨none, 0, rfl, Sl.nil_, HR.out.2⟩
    · have d1 : decide ((1800 : Int) < ((code e).length : Int)) = false := by simp; omega
      rw [if_neg hl] at hd
      have HE := Lib.hid hd
      clear hd hl
      go_wp2
      go_ret
      have e9 := HE.out
      subst e9
      exact ⟨va, vc, rfl, HR.out.1, HR.out.2⟩
  · have k3 : World.cell? _ ⟨w.heap.size, 3, none⟩ = some (.int .i64 e.t) := HC.out 3 _ rfl _ _ H0.out
    have k0 : World.cell? _ ⟨w.heap.size, 0, none⟩ = some (.int .i64 e.kind) := HC.out 0 _ rfl _ _ H0.out
    go_wp2_with fail
    refine (H0.out.num e.t (HM.out.v64.nums _ (by simp)) (by simp) (by simp)).mono ?_
    rintro r x1 ⟨rfl, hh⟩
    have H1 := Lib.hid hh
    clear hh k3 k0
    have HF : Hid (WMv 77 (w1.alloc (.cells #[.slice none 0 0] 77)) w1.heap.size ([] ++ code e) (fun k => k = w1.heap.size) x1) := by
      show WMv _ _ _ _ _ _
      have h9 := H1.out.mv
      have hcd : code e = nb [e.t] := by unfold code; simp [hk]
      rw [hcd]
      simpa using h9
    obtain ⟨va, vc, kw, hsl, hbl⟩ := FIN.out _ HF.out
    have HR := Lib.hid (And.intro hsl hbl)
    clear hsl hbl
    have hd := HD.out
    rw [if_pos HX.out] at hd
    by_cases hl : 1800 < (code e).length
    · have d1 : decide ((1800 : Int) < ((code e).length : Int)) = true := by simp; omega
      rw [if_pos hl] at hd
      have HE := Lib.hid hd
      clear hd hl
      go_wp2
      go_ret
      have e9 := HE.out
      subst e9
      exact ⟨none, 0, rfl, Sl.nil_, HR.out.2⟩
    · have d1 : decide ((1800 : Int) < ((code e).length : Int)) = false := by simp; omega
      rw [if_neg hl] at hd
      have HE := Lib.hid hd
      clear hd hl
      go_wp2
      go_ret
      have e9 := HE.out
      subst e9
      exact ⟨va, vc, rfl, HR.out.1, HR.out.2⟩
  · have k4 : World.cell? _ ⟨w.heap.size, 4, none⟩ = some (.int .i64 e.id) := HC.out 4 _ rfl _ _ H0.out
    have k0 : World.cell? _ ⟨w.heap.size, 0, none⟩ = some (.int .i64 e.kind) := HC.out 0 _ rfl _ _ H0.out
    go_wp2_with fail
    refine (H0.out.num e.id (HM.out.v64.nums _ (by simp)) (by simp) (by simp)).mono ?_
    rintro r x1 ⟨rfl, hh⟩
    have H1 := Lib.hid hh
    clear hh k4 k0
    have k6 : World.cell? _ ⟨w.heap.size, 6, none⟩ = some (.int .i64 e.pol.kind) := HC.out 6 _ rfl _ _ H1.out
    have k7 : World.cell? _ ⟨w.heap.size, 7, none⟩ = some (.int .i64 e.pol.target) := HC.out 7 _ rfl _ _ H1.out
    have k8 : World.cell? _ ⟨w.heap.size, 8, none⟩ = some (.slice a1 e.pol.bands.length c1) := HC.out 8 _ rfl _ _ H1.out
    have k9 : World.cell? _ ⟨w.heap.size, 9, none⟩ = some (.int .i64 e.pol.kp) := HC.out 9 _ rfl _ _ H1.out
    have k10 : World.cell? _ ⟨w.heap.size, 10, none⟩ = some (.int .i64 e.pol.ki) := HC.out 10 _ rfl _ _ H1.out
    have k11 : World.cell? _ ⟨w.heap.size, 11, none⟩ = some (.int .i64 e.pol.kd) := HC.out 11 _ rfl _ _ H1.out
    have k12 : World.cell? _ ⟨w.heap.size, 12, none⟩ = some (.int .i64 e.pol.period) := HC.out 12 _ rfl _ _ H1.out
    have k13 : World.cell? _ ⟨w.heap.size, 13, none⟩ = some (.slice a2 e.pol.slots.length c2) := HC.out 13 _ rfl _ _ H1.out
    obtain ⟨O1, hw1, hb1, hn1⟩ := H1.out.mv
    have hO1 : ∀ k, O1 k → k = w1.heap.size ∨ w1.heap.size ≤ k := fun k hk => by rcases hn1 k hk with h | h; exact .inl h; right; simp at h; omega
    have PP := Lib.hid (dputPol_any e.pol hw1 (HMn.out.bands.keep hb1 (fun hp k o e' ho => HFr.out.bands hp k o e' (.inl ho))) (HMn.out.slots.keep hb1 (fun hp k o e' ho => HFr.out.slots hp k o e' (.inl ho))) (fun hp k o e' ho => HFr.out.bands hp k o e' (hO1 k ho)) (fun hp k o e' ho => HFr.out.slots hp k o e' (hO1 k ho)) (fun x hx => HM.out.v64.pol x (by simpa using hx)) HM.out.v64.bands HM.out.v64.slots HN.out.1 HN.out.2.1 (by have := nb_len ([] ++ [e.id]) H1.out.all; simp only [List.length_append, List.length_cons, List.length_nil] at *; omega))
    have HT := Lib.hid (And.intro hb1 hn1)
    clear hw1 hb1 hn1 hO1
    go_wp2_with fail
    refine PP.out.mono ?_
    rintro r xf ⟨rfl, hh⟩
    have hg := WMv.then_ HT.out.1 HT.out.2 hh
    have HF : Hid (WMv 77 (w1.alloc (.cells #[.slice none 0 0] 77)) w1.heap.size ([] ++ code e) (fun k => k = w1.heap.size) xf) := by
      show WMv _ _ _ _ _ _
      have hcd : code e = nb ([] ++ [e.id]) ++ nb (polN e.pol) := by unfold code; simp [hk, nb]
      rw [hcd]
      simpa [List.append_assoc] using hg
    clear hh hg PP k6 k7 k8 k9 k10 k11 k12 k13
    obtain ⟨va, vc, kw, hsl, hbl⟩ := FIN.out _ HF.out
    have HR := Lib.hid (And.intro hsl hbl)
    clear hsl hbl
    have hd := HD.out
    rw [if_pos HX.out] at hd
    by_cases hl : 1800 < (code e).length
    · have d1 : decide ((1800 : Int) < ((code e).length : Int)) = true := by simp; omega
      rw [if_pos hl] at hd
      have HE := Lib.hid hd
      clear hd hl
      go_wp2
      go_ret
      have e9 := HE.out
      subst e9
      exact ⟨none, 0, rfl, Sl.nil_, HR.out.2⟩
    · have d1 : decide ((1800 : Int) < ((code e).length : Int)) = false := by simp; omega
      rw [if_neg hl] at hd
      have HE := Lib.hid hd
      clear hd hl
      go_wp2
      go_ret
      have e9 := HE.out
      subst e9
      exact ⟨va, vc, rfl, HR.out.1, HR.out.2⟩
  · have k0 : World.cell? _ ⟨w.heap.size, 0, none⟩ = some (.int .i64 e.kind) := HC.out 0 _ rfl _ _ H0.out
    have k14 : World.cell? _ ⟨w.heap.size, 14, none⟩ = some (.int .i64 e.conf.min) := HC.out 14 _ rfl _ _ H0.out
    have k15 : World.cell? _ ⟨w.heap.size, 15, none⟩ = some (.int .i64 e.conf.max) := HC.out 15 _ rfl _ _ H0.out
    have k16 : World.cell? _ ⟨w.heap.size, 16, none⟩ = some (.int .i64 e.conf.rate) := HC.out 16 _ rfl _ _ H0.out
    have k17 : World.cell? _ ⟨w.heap.size, 17, none⟩ = some (.int .i64 e.conf.stable) := HC.out 17 _ rfl _ _ H0.out
    have k18 : World.cell? _ ⟨w.heap.size, 18, none⟩ = some (.int .i64 e.conf.cap) := HC.out 18 _ rfl _ _ H0.out
    have k19 : World.cell? _ ⟨w.heap.size, 19, none⟩ = some (.int .i64 e.conf.delay) := HC.out 19 _ rfl _ _ H0.out
    have k20 : World.cell? _ ⟨w.heap.size, 20, none⟩ = some (.int .i64 e.conf.slack) := HC.out 20 _ rfl _ _ H0.out
    have k21 : World.cell? _ ⟨w.heap.size, 21, none⟩ = some (.int .i64 e.conf.window) := HC.out 21 _ rfl _ _ H0.out
    have k22 : World.cell? _ ⟨w.heap.size, 22, none⟩ = some (.int .i64 e.conf.margin) := HC.out 22 _ rfl _ _ H0.out
    have k23 : World.cell? _ ⟨w.heap.size, 23, none⟩ = some (.int .i64 e.conf.ceil) := HC.out 23 _ rfl _ _ H0.out
    have k24 : World.cell? _ ⟨w.heap.size, 24, none⟩ = some (.int .i64 e.conf.probe) := HC.out 24 _ rfl _ _ H0.out
    have k25 : World.cell? _ ⟨w.heap.size, 25, none⟩ = some (.int .i64 e.conf.breach) := HC.out 25 _ rfl _ _ H0.out
    obtain ⟨O1, hw1, hb1, hn1⟩ := H0.out.mv
    have PP := Lib.hid (dputConf_any e.conf hw1 HM.out.v64.conf (by simp [nb]))
    have HT := Lib.hid (And.intro hb1 hn1)
    clear hw1 hb1 hn1
    go_wp2_with fail
    refine PP.out.mono ?_
    rintro r xf ⟨rfl, hh⟩
    have hg := WMv.then_ HT.out.1 HT.out.2 hh
    have HF : Hid (WMv 77 (w1.alloc (.cells #[.slice none 0 0] 77)) w1.heap.size ([] ++ code e) (fun k => k = w1.heap.size) xf) := by
      show WMv _ _ _ _ _ _
      have hcd : code e = nb (confN e.conf) := by unfold code; simp [hk]
      rw [hcd]
      simpa [show nb [] = [] from rfl] using hg
    clear hh hg PP k0 k14 k15 k16 k17 k18 k19 k20 k21 k22 k23 k24 k25
    obtain ⟨va, vc, kw, hsl, hbl⟩ := FIN.out _ HF.out
    have HR := Lib.hid (And.intro hsl hbl)
    clear hsl hbl
    have hd := HD.out
    rw [if_pos HX.out] at hd
    by_cases hl : 1800 < (code e).length
    · have d1 : decide ((1800 : Int) < ((code e).length : Int)) = true := by simp; omega
      rw [if_pos hl] at hd
      have HE := Lib.hid hd
      clear hd hl
      go_wp2
      go_ret
      have e9 := HE.out
      subst e9
      exact ⟨none, 0, rfl, Sl.nil_, HR.out.2⟩
    · have d1 : decide ((1800 : Int) < ((code e).length : Int)) = false := by simp; omega
      rw [if_neg hl] at hd
      have HE := Lib.hid hd
      clear hd hl
      go_wp2
      go_ret
      have e9 := HE.out
      subst e9
      exact ⟨va, vc, rfl, HR.out.1, HR.out.2⟩
  · have k3 : World.cell? _ ⟨w.heap.size, 3, none⟩ = some (.int .i64 e.t) := HC.out 3 _ rfl _ _ H0.out
    have k0 : World.cell? _ ⟨w.heap.size, 0, none⟩ = some (.int .i64 e.kind) := HC.out 0 _ rfl _ _ H0.out
    go_wp2_with fail
    refine (H0.out.num e.t (HM.out.v64.nums _ (by simp)) (by simp) (by simp)).mono ?_
    rintro r x1 ⟨rfl, hh⟩
    have H1 := Lib.hid hh
    clear hh k3 k0
    have k5 : World.cell? _ ⟨w.heap.size, 5, none⟩ = some (.int .i64 e.n) := HC.out 5 _ rfl _ _ H1.out
    go_wp2_with fail
    refine (H1.out.num e.n (HM.out.v64.nums _ (by simp)) (by simp) (by simp)).mono ?_
    rintro r x2 ⟨rfl, hh⟩
    have H2 := Lib.hid hh
    clear hh k5
    have HF : Hid (WMv 77 (w1.alloc (.cells #[.slice none 0 0] 77)) w1.heap.size ([] ++ code e) (fun k => k = w1.heap.size) x2) := by
      show WMv _ _ _ _ _ _
      have h9 := H2.out.mv
      have hcd : code e = nb [e.t, e.n] := by unfold code; simp [hk]
      rw [hcd]
      simpa using h9
    obtain ⟨va, vc, kw, hsl, hbl⟩ := FIN.out _ HF.out
    have HR := Lib.hid (And.intro hsl hbl)
    clear hsl hbl
    have hd := HD.out
    rw [if_pos HX.out] at hd
    by_cases hl : 1800 < (code e).length
    · have d1 : decide ((1800 : Int) < ((code e).length : Int)) = true := by simp; omega
      rw [if_pos hl] at hd
      have HE := Lib.hid hd
      clear hd hl
      go_wp2
      go_ret
      have e9 := HE.out
      subst e9
      exact ⟨none, 0, rfl, Sl.nil_, HR.out.2⟩
    · have d1 : decide ((1800 : Int) < ((code e).length : Int)) = false := by simp; omega
      rw [if_neg hl] at hd
      have HE := Lib.hid hd
      clear hd hl
      go_wp2
      go_ret
      have e9 := HE.out
      subst e9
      exact ⟨va, vc, rfl, HR.out.1, HR.out.2⟩
  · have k4 : World.cell? _ ⟨w.heap.size, 4, none⟩ = some (.int .i64 e.id) := HC.out 4 _ rfl _ _ H0.out
    have k0 : World.cell? _ ⟨w.heap.size, 0, none⟩ = some (.int .i64 e.kind) := HC.out 0 _ rfl _ _ H0.out
    go_wp2_with fail
    refine (H0.out.num e.id (HM.out.v64.nums _ (by simp)) (by simp) (by simp)).mono ?_
    rintro r x1 ⟨rfl, hh⟩
    have H1 := Lib.hid hh
    clear hh k4 k0
    have HF : Hid (WMv 77 (w1.alloc (.cells #[.slice none 0 0] 77)) w1.heap.size ([] ++ code e) (fun k => k = w1.heap.size) x1) := by
      show WMv _ _ _ _ _ _
      have h9 := H1.out.mv
      have hcd : code e = nb [e.id] := by unfold code; simp [hk]
      rw [hcd]
      simpa using h9
    obtain ⟨va, vc, kw, hsl, hbl⟩ := FIN.out _ HF.out
    have HR := Lib.hid (And.intro hsl hbl)
    clear hsl hbl
    have hd := HD.out
    rw [if_pos HX.out] at hd
    by_cases hl : 1800 < (code e).length
    · have d1 : decide ((1800 : Int) < ((code e).length : Int)) = true := by simp; omega
      rw [if_pos hl] at hd
      have HE := Lib.hid hd
      clear hd hl
      go_wp2
      go_ret
      have e9 := HE.out
      subst e9
      exact ⟨none, 0, rfl, Sl.nil_, HR.out.2⟩
    · have d1 : decide ((1800 : Int) < ((code e).length : Int)) = false := by simp; omega
      rw [if_neg hl] at hd
      have HE := Lib.hid hd
      clear hd hl
      go_wp2
      go_ret
      have e9 := HE.out
      subst e9
      exact ⟨va, vc, rfl, HR.out.1, HR.out.2⟩
  · have k4 : World.cell? _ ⟨w.heap.size, 4, none⟩ = some (.int .i64 e.id) := HC.out 4 _ rfl _ _ H0.out
    have k0 : World.cell? _ ⟨w.heap.size, 0, none⟩ = some (.int .i64 e.kind) := HC.out 0 _ rfl _ _ H0.out
    go_wp2_with fail
    refine (H0.out.num e.id (HM.out.v64.nums _ (by simp)) (by simp) (by simp)).mono ?_
    rintro r x1 ⟨rfl, hh⟩
    have H1 := Lib.hid hh
    clear hh k4 k0
    have HF : Hid (WMv 77 (w1.alloc (.cells #[.slice none 0 0] 77)) w1.heap.size ([] ++ code e) (fun k => k = w1.heap.size) x1) := by
      show WMv _ _ _ _ _ _
      have h9 := H1.out.mv
      have hcd : code e = nb [e.id] := by unfold code; simp [hk]
      rw [hcd]
      simpa using h9
    obtain ⟨va, vc, kw, hsl, hbl⟩ := FIN.out _ HF.out
    have HR := Lib.hid (And.intro hsl hbl)
    clear hsl hbl
    have hd := HD.out
    rw [if_pos HX.out] at hd
    by_cases hl : 1800 < (code e).length
    · have d1 : decide ((1800 : Int) < ((code e).length : Int)) = true := by simp; omega
      rw [if_pos hl] at hd
      have HE := Lib.hid hd
      clear hd hl
      go_wp2
      go_ret
      have e9 := HE.out
      subst e9
      exact ⟨none, 0, rfl, Sl.nil_, HR.out.2⟩
    · have d1 : decide ((1800 : Int) < ((code e).length : Int)) = false := by simp; omega
      rw [if_neg hl] at hd
      have HE := Lib.hid hd
      clear hd hl
      go_wp2
      go_ret
      have e9 := HE.out
      subst e9
      exact ⟨va, vc, rfl, HR.out.1, HR.out.2⟩
  · have k0 : World.cell? _ ⟨w.heap.size, 0, none⟩ = some (.int .i64 e.kind) := HC.out 0 _ rfl _ _ H0.out
    have k26 : World.cell? _ ⟨w.heap.size, 26, none⟩ = some (.slice a3 e.body.length c3) := HC.out 26 _ rfl _ _ H0.out
    obtain ⟨O1, hw1, hb1, hn1⟩ := H0.out.mv
    have hO1 : ∀ k, O1 k → k = w1.heap.size ∨ w1.heap.size ≤ k := fun k hk => by rcases hn1 k hk with h | h; exact .inl h; right; simp at h; omega
    have PP := Lib.hid (rwtext_any hw1 a3 e.body.length c3 e.body (HMn.out.body.same_ hb1.size (fun hp b o e' => hb1.block b (by obtain ⟨b2, o2, e2, hlt, _⟩ := HMn.out.body.at_ hp; rw [e'] at e2; injection e2 with e2; injection e2 with e2; omega) (fun ho => HFr.out.body hp b o e' (.inl ho)))) (fun hp b o e' ho => HFr.out.body hp b o e' (hO1 b ho)) (by simp [nb]) (by have := HN.out.2.2; omega))
    have HT := Lib.hid (And.intro hb1 hn1)
    clear hw1 hb1 hn1 hO1
    go_wp2_with fail
    refine PP.out.mono ?_
    rintro r xf ⟨rfl, hh⟩
    have hg := WMv.then_ HT.out.1 HT.out.2 hh
    have HF : Hid (WMv 77 (w1.alloc (.cells #[.slice none 0 0] 77)) w1.heap.size ([] ++ code e) (fun k => k = w1.heap.size) xf) := by
      show WMv _ _ _ _ _ _
      have hcd : code e = dg (cnt (e.body.length : Int)) ++ e.body := by unfold code; simp [hk]
      rw [hcd]
      simpa [show nb [] = [] from rfl] using hg
    clear hh hg PP k0 k26
    obtain ⟨va, vc, kw, hsl, hbl⟩ := FIN.out _ HF.out
    have HR := Lib.hid (And.intro hsl hbl)
    clear hsl hbl
    have hd := HD.out
    rw [if_pos HX.out] at hd
    by_cases hl : 1800 < (code e).length
    · have d1 : decide ((1800 : Int) < ((code e).length : Int)) = true := by simp; omega
      rw [if_pos hl] at hd
      have HE := Lib.hid hd
      clear hd hl
      go_wp2
      go_ret
      have e9 := HE.out
      subst e9
      exact ⟨none, 0, rfl, Sl.nil_, HR.out.2⟩
    · have d1 : decide ((1800 : Int) < ((code e).length : Int)) = false := by simp; omega
      rw [if_neg hl] at hd
      have HE := Lib.hid hd
      clear hd hl
      go_wp2
      go_ret
      have e9 := HE.out
      subst e9
      exact ⟨va, vc, rfl, HR.out.1, HR.out.2⟩
end
section
open Go.RowKit
open Wir Evn
attribute [local go_sem] Oper.semAt_some
set_option linter.unusedVariables false
set_option linter.unusedSimpArgs false

theorem there_mid {w : World} {g o n : Nat} {cs : Array Value} {U : TypeId} (h : w.heap[g]? = some (.cells cs U (0, 0))) (hle : o + n ≤ cs.size) : w.there g o n := fun j hj =>
  ⟨by have h2 : o + j < cs.size := by omega
      rw [cell_of_row _ _ (o + j) _ _ _ h]; simp [h2], frozen_of_row _ _ (o + j) _ _ h⟩
structure GE (w wx : World) (g b : Nat) (s : RS) (O : Nat → Prop) (cs : Array Value) : Prop where
  rdr : Rdr 100 wx g s O
  blk : wx.heap[b]? = some (.cells cs 30 (0, 0))
  res : wx.heap[w.heap.size]? = some (.cells (evC (ofKind 0) none none none 0 0 0) 30 (0, 0))
  bel : Below w.heap.size w wx
  ne : ∀ k, O k → w.heap.size < k ∧ k < b
  sb : w.heap.size < b
section
variable {w wx x : World} {g b : Nat} {s s' : RS} {O : Nat → Prop} {cs : Array Value}
theorem GE.read (h : GE w wx g b s O cs) (hr : Rdr 100 x g s' O) (hx : But O wx x) : GE w x g b s' O cs :=
  ⟨hr, (hx.block b (lt_of_heap h.blk) (fun ho => by have := (h.ne _ ho).2; omega)).trans h.blk, (hx.block _ (lt_of_heap h.res) (fun ho => by have := (h.ne _ ho).1; omega)).trans h.res,
    h.bel.trans (hx.below h.bel.size (fun k hk => by have := (h.ne k hk).1; omega)), h.ne, h.sb⟩
theorem GE.set (h : GE w wx g b s O cs) (j : Nat) (v : Value) : GE w (wx.setCell ⟨b, j, none⟩ v) g b s O (cs.setIfInBounds j v) := by
  have hb := h.sb
  refine ⟨h.rdr.same (fun k hk => Below.heap_setCell wx ⟨b, j, none⟩ v k (fun e => by have := (h.ne k hk).2; have e2 : k = b := e; omega)) (by simp [World.setCell]), heap_setCell_same _ _ _ _ _ _ h.blk,
    (Below.heap_setCell wx ⟨b, j, none⟩ v _ (fun e => by have e2 : w.heap.size = b := e; omega)).trans h.res, h.bel.setCell (by show w.heap.size ≤ b; omega) v, h.ne, h.sb⟩
theorem GE.cell (h : GE w wx g b s O cs) {j : Nat} {v : Value} (hv : cs[j]? = some v) : wx.cell? ⟨b, j, none⟩ = some v ∧ wx.frozen? ⟨b, j, none⟩ = false :=
  ⟨by rw [cell_of_row _ _ j _ _ _ h.blk]; exact hv, frozen_of_row _ _ j _ _ h.blk⟩
theorem GE.sets : ∀ (l : List Value) (j : Nat) (wx : World) (cs : Array Value), GE w wx g b s O cs → GE w (wx.setCells b j l) g b s O (l.foldl (fun (c : Nat × Array Value) v => (c.1 + 1, c.2.setIfInBounds c.1 v)) (j, cs)).2
  | [], _, _, cs, k => k
  | v :: l, j, wx, cs, k => GE.sets l (j + 1) _ _ (k.set j v)
end
section
variable (e : Ev) (a1 a2 a3 : Option Addr) (c1 c2 c3 : Nat)
theorem ge1 (v : Int) : (evC e a1 a2 a3 c1 c2 c3).setIfInBounds 1 (.int .i64 v) = evC { e with util := v } a1 a2 a3 c1 c2 c3 := by kernel_rfl
theorem ge2 (v : Int) : (evC e a1 a2 a3 c1 c2 c3).setIfInBounds 2 (.int .i64 v) = evC { e with demand := v } a1 a2 a3 c1 c2 c3 := by kernel_rfl
theorem ge3 (v : Int) : (evC e a1 a2 a3 c1 c2 c3).setIfInBounds 3 (.int .i64 v) = evC { e with t := v } a1 a2 a3 c1 c2 c3 := by kernel_rfl
theorem ge4 (v : Int) : (evC e a1 a2 a3 c1 c2 c3).setIfInBounds 4 (.int .i64 v) = evC { e with id := v } a1 a2 a3 c1 c2 c3 := by kernel_rfl
theorem ge5 (v : Int) : (evC e a1 a2 a3 c1 c2 c3).setIfInBounds 5 (.int .i64 v) = evC { e with n := v } a1 a2 a3 c1 c2 c3 := by kernel_rfl
theorem gePol (p : Pl) (b1 b2 : Option Addr) (f1 f2 : Nat) : ([Value.int .i64 p.kind, .int .i64 p.target, .slice b1 p.bands.length f1, .int .i64 p.kp, .int .i64 p.ki, .int .i64 p.kd, .int .i64 p.period, .slice b2 p.slots.length f2].foldl (fun (c : Nat × Array Value) v => (c.1 + 1, c.2.setIfInBounds c.1 v)) (6, evC e a1 a2 a3 c1 c2 c3)).2 = evC { e with pol := p } b1 b2 a3 f1 f2 c3 := by kernel_rfl
theorem geConf (c : Cf) : ([Value.int .i64 c.min, .int .i64 c.max, .int .i64 c.rate, .int .i64 c.stable, .int .i64 c.cap, .int .i64 c.delay, .int .i64 c.slack, .int .i64 c.window, .int .i64 c.margin, .int .i64 c.ceil, .int .i64 c.probe, .int .i64 c.breach].foldl (fun (c : Nat × Array Value) v => (c.1 + 1, c.2.setIfInBounds c.1 v)) (14, evC e a1 a2 a3 c1 c2 c3)).2 = evC { e with conf := c } a1 a2 a3 c1 c2 c3 := by kernel_rfl
theorem ge26 (bs : List Nat) (d : Option Addr) (f : Nat) : (evC e a1 a2 a3 c1 c2 c3).setIfInBounds 26 (.slice d bs.length f) = evC { e with body := bs } a1 a2 d c1 c2 f := by kernel_rfl
end
set_option maxRecDepth 100000 in
set_option maxHeartbeats 12800000 in
theorem dget_any {w : World} {a : Option Addr} {len cap : Nat} {bs : List Nat} (kind : Int) (hk : I64 kind) (hs : Sl w w.heap.size a len cap bs) (hlen : len ≤ 1000000) :
    Calls Try.prog 8 #[.int .i64 kind, .slice a len cap] w fun r w' => ∃ d1 d2 d3 f1 f2 f3, r = .returned (.tuple #[evV (getR kind bs).1 d1 d2 d3 f1 f2 f3, .int .i64 (((getR kind bs).2 : Nat) : Int)]) ∧ EvM w' d1 d2 d3 f1 f2 f3 (getR kind bs).1 ∧ Below w.heap.size w w' := by
  obtain ⟨w0, hw0⟩ : ∃ w0, w0 = w.alloc (.cells (evC (ofKind 0) none none none 0 0 0) 30) := ⟨_, rfl⟩
  have hB0 : Below w.heap.size w w0 := by rw [hw0]; exact bel1 (Below.refl _ _) _
  have hr0 : w0.heap[w.heap.size]? = some (.cells (evC (ofKind 0) none none none 0 0 0) 30 (0, 0)) := by rw [hw0]; exact heap_alloc_new w _
  have NR := Lib.hid (rnewReader_any a len cap bs w0 ((hs.below hB0 (Nat.le_refl _)).more hB0.size) (by omega))
  have H0 := Lib.hid (And.intro hB0 (And.intro hr0 hk))
  have HW0 : Hid (w.alloc (.cells #[.int .i64 0, .int .i64 0, .int .i64 0, .int .i64 0, .int .i64 0, .int .i64 0, .int .i64 0, .int .i64 0, .slice none 0 0, .int .i64 0, .int .i64 0, .int .i64 0, .int .i64 0, .slice none 0 0, .int .i64 0, .int .i64 0, .int .i64 0, .int .i64 0, .int .i64 0, .int .i64 0, .int .i64 0, .int .i64 0, .int .i64 0, .int .i64 0, .int .i64 0, .int .i64 0, .slice none 0 0] 30) = w0) := hw0.symm
  clear hs hB0 hr0 hw0 hk
  go_enter Try.func8, Try.ntmps8
  go_wp2_with fail
  rw [HW0.out]
  refine NR.out.mono ?_
  rintro r w1 ⟨g, O, rfl, hR, hb1, hO⟩
  have hsz : w0.heap.size = w.heap.size + 1 := by rw [← HW0.out]; simp
  have hs01 := hb1.size
  obtain ⟨wZ, hwZ⟩ : ∃ wZ, wZ = w1.alloc (.cells (evC (ofKind 0) none none none 0 0 0) 30) := ⟨_, rfl⟩
  have hbZ : Below w1.heap.size w1 wZ := by rw [hwZ]; exact bel1 (Below.refl _ _) _
  have hzc : wZ.heap[w1.heap.size]? = some (.cells (evC (ofKind 0) none none none 0 0 0) 30 (0, 0)) := by rw [hwZ]; exact heap_alloc_new w1 _
  have hEQ : Hid (w1.alloc (.cells #[.int .i64 0, .int .i64 0, .int .i64 0, .int .i64 0, .int .i64 0, .int .i64 0, .int .i64 0, .int .i64 0, .slice none 0 0, .int .i64 0, .int .i64 0, .int .i64 0, .int .i64 0, .slice none 0 0, .int .i64 0, .int .i64 0, .int .i64 0, .int .i64 0, .int .i64 0, .int .i64 0, .int .i64 0, .int .i64 0, .int .i64 0, .int .i64 0, .int .i64 0, .int .i64 0, .slice none 0 0] 30) = wZ) := hwZ.symm
  obtain ⟨w3, hw3⟩ : ∃ w3, w3 = wZ.setCells w1.heap.size 0 (evC (ofKind kind) none none none 0 0 0).toList := ⟨_, rfl⟩
  have h3c : w3.heap[w1.heap.size]? = some (.cells (evC (ofKind kind) none none none 0 0 0) 30 (0, 0)) := by rw [hw3]; exact store27 hzc rfl
  have hb3 : Below w1.heap.size w1 w3 := by rw [hw3]; exact below_setCells' _ (Nat.le_refl _) _ _ hbZ
  have hS3 : Hid (wZ.setCells w1.heap.size 0 (evC (ofKind kind) none none none 0 0 0).toList = w3) := hw3.symm
  have HGE := Lib.hid (show GE w w3 g w1.heap.size ⟨bs, 0, 0⟩ O (evC (ofKind kind) none none none 0 0 0) from ⟨hR.below hb3, h3c, (hb3.block _ (by omega)).trans ((hb1.block _ (by omega)).trans H0.out.2.1), bel2 (bel2 H0.out.1 hb1) hb3, fun k hk => ⟨by have := hO k hk; omega, hR.lt k hk⟩, by omega⟩)
  have HZC := Lib.hid hzc
  have hk64 := Lib.hid H0.out.2.2
  clear hzc hb3 hO hR hb1 hbZ h3c hw3 hwZ H0 NR hs01 hsz HW0
  by_cases hkk : 1 ≤ kind ∧ kind ≤ 8
  rotate_left
  · have HGN := Lib.hid (get_none hkk bs)
    have n1 : (kind == 1) = false := by simp; omega
    have n2 : (kind == 2) = false := by simp; omega
    have n3 : (kind == 3) = false := by simp; omega
    have n4 : (kind == 4) = false := by simp; omega
    have n5 : (kind == 5) = false := by simp; omega
    have n6 : (kind == 6) = false := by simp; omega
    have n7 : (kind == 7) = false := by simp; omega
    have n8 : (kind == 8) = false := by simp; omega
    clear hkk
    go_wp2_with (first
      | ((try rw [hEQ.out]); refine wpList_store_mid (by rfl) 30 (.tmp 7) (.tmp 12) (by rfl) w1.heap.size 0 (evC (ofKind kind) none none none 0 0 0) (by rfl) (by rfl) (there_of_block HZC.out (Nat.le_refl 27)) (by kernel_rfl) (by kernel_rfl) ?_; rw [hS3.out])
      | (refine wpList_store_mid (by rfl) 30 (.tmp 4) (.tmp 14) (by rfl) w.heap.size 0 (evC (ofKind 0) none none none 0 0 0) (by rfl) (by rfl) (there_of_block HGE.out.res (Nat.le_refl 27)) (by kernel_rfl) (by kernel_rfl) ?_))
    refine bodyPost_ret (results_row_tmp1 rfl _ _ w.heap.size _ _ _ _ rfl (store27 HGE.out.res rfl) Try.underlying30 (by rfl) (by kernel_rfl)) (by rfl) ?_
    refine ⟨none, none, none, 0, 0, 0, ?_, ?_, below_setCells' _ (Nat.le_refl _) _ _ HGE.out.bel⟩
    · rw [HGN.out]; rfl
    · rw [HGN.out]; exact ⟨PRow.nil_, PRow.nil_, Sl.nil_, ofKind64 i64_0⟩
  have hk8 : kind = 1 ∨ kind = 2 ∨ kind = 3 ∨ kind = 4 ∨ kind = 5 ∨ kind = 6 ∨ kind = 7 ∨ kind = 8 := by omega
  clear hkk
  rcases hk8 with rfl | rfl | rfl | rfl | rfl | rfl | rfl | rfl
  · have HM64 := Lib.hid (get64 (s := ⟨bs, 0, 0⟩) HGE.out.rdr.ok hk64.out)
    obtain ⟨v0, s0, h0⟩ : ∃ v0 s0, RS.num ⟨bs, 0, 0⟩ = (v0, s0) := ⟨_, _, rfl⟩
    have K0 := Lib.hid h0
    obtain ⟨v1, s1, h1⟩ : ∃ v1 s1, RS.num s0 = (v1, s1) := ⟨_, _, rfl⟩
    have K1 := Lib.hid h1
    have HEV : Hid (getEv 1 ⟨bs, 0, 0⟩ = (({ ofKind 1 with util := v0, demand := v1 } : Ev), s1)) := by
      show _ = _
      unfold getEv
      simp [h0, h1]
    clear h0 h1
    go_wp2_with (first | ((try rw [hEQ.out]); refine wpList_store_mid (by rfl) 30 (.tmp 7) (.tmp 12) (by rfl) w1.heap.size 0 (evC (ofKind 1) none none none 0 0 0) (by rfl) (by rfl) (there_of_block HZC.out (Nat.le_refl 27)) (by kernel_rfl) (by kernel_rfl) ?_; rw [hS3.out]))
    refine (rnum_any HGE.out.rdr).mono ?_
    rintro e x0 ⟨rfl, hr, hq⟩
    rw [K0.out] at hr ⊢
    simp only at hr ⊢
    have hg := HGE.out.read hr hq
    clear HGE hr hq
    have hz := hg.cell (j := 1) (v := .int .i64 0) rfl
    obtain ⟨q, z⟩ := hz
    have hn := hg.set 1 (.int .i64 v0)
    rw [ge1] at hn
    have HGE := Lib.hid hn
    clear hg hn
    go_wp2_with fail
    clear q z
    refine (rnum_any HGE.out.rdr).mono ?_
    rintro e x1 ⟨rfl, hr, hq⟩
    rw [K1.out] at hr ⊢
    simp only at hr ⊢
    have hg := HGE.out.read hr hq
    clear HGE hr hq
    have hz := hg.cell (j := 2) (v := .int .i64 0) rfl
    obtain ⟨q, z⟩ := hz
    have hn := hg.set 2 (.int .i64 v1)
    rw [ge2] at hn
    have HGE := Lib.hid hn
    clear hg hn
    have HPP : Hid (PRow (x1.setCell ⟨w1.heap.size, 2, none⟩ (.int .i64 v1)) none (({ ofKind 1 with util := v0, demand := v1 } : Ev)).pol.bands.length 0 (({ ofKind 1 with util := v0, demand := v1 } : Ev)).pol.bands ∧ PRow (x1.setCell ⟨w1.heap.size, 2, none⟩ (.int .i64 v1)) none (({ ofKind 1 with util := v0, demand := v1 } : Ev)).pol.slots.length 0 (({ ofKind 1 with util := v0, demand := v1 } : Ev)).pol.slots ∧ Sl (x1.setCell ⟨w1.heap.size, 2, none⟩ (.int .i64 v1)) (World.heap (x1.setCell ⟨w1.heap.size, 2, none⟩ (.int .i64 v1))).size none (({ ofKind 1 with util := v0, demand := v1 } : Ev)).body.length 0 (({ ofKind 1 with util := v0, demand := v1 } : Ev)).body ∧ ∀ k o, ((none : Option Addr) = some ⟨k, o, none⟩ ∨ (none : Option Addr) = some ⟨k, o, none⟩ ∨ (none : Option Addr) = some ⟨k, o, none⟩) → w.heap.size < k) := ⟨PRow.nil_, PRow.nil_, Sl.nil_, fun k o e => by rcases e with e | e | e <;> cases e⟩
    obtain ⟨ge, hge⟩ : ∃ ge, ge = getEv 1 ⟨bs, 0, 0⟩ := ⟨_, rfl⟩
    have he1 : ({ ofKind 1 with util := v0, demand := v1 } : Ev) = ge.1 := by rw [hge, HEV.out]
    have he2 : s1 = ge.2 := by rw [hge, HEV.out]
    have HGR : Hid (getR 1 bs = if ge.2.end_ ≠ 0 then (ofKind 0, ge.2.end_) else if rightR ge.1 = true then (ge.1, 0) else (ofKind 0, 12)) := by show _ = _; rw [hge]; rfl
    have H64 := HM64.out
    rw [← hge] at H64
    have HM := Lib.hid H64
    clear H64 HM64
    have hgE := HGE.out
    rw [he1, he2] at hgE
    have hPP : PRow (x1.setCell ⟨w1.heap.size, 2, none⟩ (.int .i64 v1)) none ge.1.pol.bands.length 0 ge.1.pol.bands ∧ PRow (x1.setCell ⟨w1.heap.size, 2, none⟩ (.int .i64 v1)) none ge.1.pol.slots.length 0 ge.1.pol.slots ∧ Sl (x1.setCell ⟨w1.heap.size, 2, none⟩ (.int .i64 v1)) (World.heap (x1.setCell ⟨w1.heap.size, 2, none⟩ (.int .i64 v1))).size none ge.1.body.length 0 ge.1.body ∧ ∀ k o, ((none : Option Addr) = some ⟨k, o, none⟩ ∨ (none : Option Addr) = some ⟨k, o, none⟩ ∨ (none : Option Addr) = some ⟨k, o, none⟩) → w.heap.size < k := by rw [← he1]; exact HPP.out
    clear he1 he2 hge HEV HGE HPP
    have HGE := Lib.hid hgE
    have HPP := Lib.hid hPP
    have CE := Lib.hid (rend_any hgE.rdr)
    clear hgE hPP
    go_wp2_with fail
    refine CE.out.mono ?_
    rintro r w5 ⟨rfl, h5⟩
    have H5 := Lib.hid (And.intro ((h5.block _ (lt_of_heap HGE.out.blk)).trans HGE.out.blk) (And.intro ((h5.block _ (lt_of_heap HGE.out.res)).trans HGE.out.res) (And.intro (bel2 HGE.out.bel h5) h5)))
    clear h5 CE
    by_cases he : ge.2.end_ = 0
    · have ne : (((ge.2.end_ : Nat) : Int) != 0) = false := by simp [he]
      have hg := HGR.out
      rw [if_neg (by simp [he])] at hg
      have CR := Lib.hid (dright_any (w := w5) (a1 := none) (a2 := none) (a3 := none) (c1 := 0) (c2 := 0) (c3 := 0) ge.1 (HPP.out.1.on H5.out.2.2.2) (HPP.out.2.1.on H5.out.2.2.2))
      have HG2 := Lib.hid hg
      clear he hg
      go_wp2_with (first
        | (refine wpList_load_row (by rfl) 30 (.tmp 7) (by rfl) w1.heap.size (by rfl) 30 (evC ge.1 none none none 0 0 0) (0, 0) _ H5.out.1 Try.underlying30 (by rfl) (by kernel_rfl) ?_))
      refine CR.out.mono ?_
      rintro r w6 ⟨rfl, h6⟩
      have H6 := Lib.hid (And.intro ((h6.block _ (lt_of_heap H5.out.1)).trans H5.out.1) (And.intro ((h6.block _ (lt_of_heap H5.out.2.1)).trans H5.out.2.1) (And.intro (bel2 H5.out.2.2.1 h6) (bel2 H5.out.2.2.2 h6))))
      clear h6 CR
      cases hx : rightR ge.1
      · have hg := HG2.out
        rw [if_neg (by rw [hx]; decide)] at hg
        have HG3 := Lib.hid hg
        clear hx hg
        go_wp2_with (first
          | (refine wpList_store_mid (by rfl) 30 (.tmp 4) (.tmp 69) (by rfl) w.heap.size 0 (evC (ofKind 0) none none none 0 0 0) (by rfl) (by rfl) (there_of_block H6.out.2.1 (Nat.le_refl 27)) (by kernel_rfl) (by kernel_rfl) ?_))
        refine bodyPost_ret (results_row_tmp1 rfl _ _ w.heap.size _ _ _ _ rfl (store27 H6.out.2.1 rfl) Try.underlying30 (by rfl) (by kernel_rfl)) (by rfl) ?_
        refine ⟨none, none, none, 0, 0, 0, ?_, ?_, below_setCells' _ (Nat.le_refl _) _ _ H6.out.2.2.1⟩
        · rw [HG3.out]; rfl
        · rw [HG3.out]; exact ⟨PRow.nil_, PRow.nil_, Sl.nil_, ofKind64 i64_0⟩
      · have hg := HG2.out
        rw [if_pos hx] at hg
        have HG3 := Lib.hid hg
        clear hx hg
        go_wp2_with (first
          | (refine wpList_load_row (by rfl) 30 (.tmp 7) (by rfl) w1.heap.size (by rfl) 30 (evC ge.1 none none none 0 0 0) (0, 0) _ H6.out.1 Try.underlying30 (by rfl) (by kernel_rfl) ?_)
          | (refine wpList_store_mid (by rfl) 30 (.tmp 4) (.tmp 70) (by rfl) w.heap.size 0 (evC ge.1 none none none 0 0 0) (by rfl) (by rfl) (there_of_block H6.out.2.1 (Nat.le_refl 27)) (by kernel_rfl) (by kernel_rfl) ?_))
        refine bodyPost_ret (results_row_tmp1 rfl _ _ w.heap.size _ _ _ _ rfl (store27 H6.out.2.1 rfl) Try.underlying30 (by rfl) (by kernel_rfl)) (by rfl) ?_
        have hb7 : But (fun k => k = w.heap.size) w6 (w6.setCells w.heap.size 0 (evC ge.1 none none none 0 0 0).toList) := but_setCells _ _ _ _
        have p1 := (HPP.out.1.on H6.out.2.2.2)
        have p2 := (HPP.out.2.1.on H6.out.2.2.2)
        have p3 := ((HPP.out.2.2.1.below H6.out.2.2.2 (Nat.le_refl _)).more H6.out.2.2.2.size)
        have q := HPP.out.2.2.2
        refine ⟨none, none, none, 0, 0, 0, ?_, ?_, below_setCells' _ (Nat.le_refl _) _ _ H6.out.2.2.1⟩
        · rw [HG3.out]; rfl
        · rw [HG3.out]
          exact ⟨p1.keep hb7 (fun _ k o e h => by have := q k o (.inl e); omega), p2.keep hb7 (fun _ k o e h => by have := q k o (.inr (.inl e)); omega),
            p3.same_ hb7.size (fun hp k o e => hb7.block k (by obtain ⟨b', o', e', hlt, _⟩ := p3.at_ hp; rw [e] at e'; injection e' with e'; injection e' with e'; omega) (fun h => by have := q k o (.inr (.inr e)); omega)), HM.out.1⟩
    · have ne : (((ge.2.end_ : Nat) : Int) != 0) = true := by simpa using he
      have hg := HGR.out
      rw [if_pos he] at hg
      have HG3 := Lib.hid hg
      clear he hg
      generalize ge.2.end_ = en at *
      go_wp2_with (first
        | (refine wpList_store_mid (by rfl) 30 (.tmp 4) (.tmp 64) (by rfl) w.heap.size 0 (evC (ofKind 0) none none none 0 0 0) (by rfl) (by rfl) (there_of_block H5.out.2.1 (Nat.le_refl 27)) (by kernel_rfl) (by kernel_rfl) ?_))
      refine bodyPost_ret (results_row_tmp1 rfl _ _ w.heap.size _ _ _ _ rfl (store27 H5.out.2.1 rfl) Try.underlying30 (by rfl) (by kernel_rfl)) (by rfl) ?_
      refine ⟨none, none, none, 0, 0, 0, ?_, ?_, below_setCells' _ (Nat.le_refl _) _ _ H5.out.2.2.1⟩
      · rw [HG3.out]; rfl
      · rw [HG3.out]; exact ⟨PRow.nil_, PRow.nil_, Sl.nil_, ofKind64 i64_0⟩
  · have HM64 := Lib.hid (get64 (s := ⟨bs, 0, 0⟩) HGE.out.rdr.ok hk64.out)
    obtain ⟨v0, s0, h0⟩ : ∃ v0 s0, RS.num ⟨bs, 0, 0⟩ = (v0, s0) := ⟨_, _, rfl⟩
    have K0 := Lib.hid h0
    have HEV : Hid (getEv 2 ⟨bs, 0, 0⟩ = (({ ofKind 2 with t := v0 } : Ev), s0)) := by
      show _ = _
      unfold getEv
      simp [h0]
    clear h0
    go_wp2_with (first | ((try rw [hEQ.out]); refine wpList_store_mid (by rfl) 30 (.tmp 7) (.tmp 12) (by rfl) w1.heap.size 0 (evC (ofKind 2) none none none 0 0 0) (by rfl) (by rfl) (there_of_block HZC.out (Nat.le_refl 27)) (by kernel_rfl) (by kernel_rfl) ?_; rw [hS3.out]))
    refine (rnum_any HGE.out.rdr).mono ?_
    rintro e x0 ⟨rfl, hr, hq⟩
    rw [K0.out] at hr ⊢
    simp only at hr ⊢
    have hg := HGE.out.read hr hq
    clear HGE hr hq
    have hz := hg.cell (j := 3) (v := .int .i64 0) rfl
    obtain ⟨q, z⟩ := hz
    have hn := hg.set 3 (.int .i64 v0)
    rw [ge3] at hn
    have HGE := Lib.hid hn
    clear hg hn
    have HPP : Hid (PRow (x0.setCell ⟨w1.heap.size, 3, none⟩ (.int .i64 v0)) none (({ ofKind 2 with t := v0 } : Ev)).pol.bands.length 0 (({ ofKind 2 with t := v0 } : Ev)).pol.bands ∧ PRow (x0.setCell ⟨w1.heap.size, 3, none⟩ (.int .i64 v0)) none (({ ofKind 2 with t := v0 } : Ev)).pol.slots.length 0 (({ ofKind 2 with t := v0 } : Ev)).pol.slots ∧ Sl (x0.setCell ⟨w1.heap.size, 3, none⟩ (.int .i64 v0)) (World.heap (x0.setCell ⟨w1.heap.size, 3, none⟩ (.int .i64 v0))).size none (({ ofKind 2 with t := v0 } : Ev)).body.length 0 (({ ofKind 2 with t := v0 } : Ev)).body ∧ ∀ k o, ((none : Option Addr) = some ⟨k, o, none⟩ ∨ (none : Option Addr) = some ⟨k, o, none⟩ ∨ (none : Option Addr) = some ⟨k, o, none⟩) → w.heap.size < k) := ⟨PRow.nil_, PRow.nil_, Sl.nil_, fun k o e => by rcases e with e | e | e <;> cases e⟩
    obtain ⟨ge, hge⟩ : ∃ ge, ge = getEv 2 ⟨bs, 0, 0⟩ := ⟨_, rfl⟩
    have he1 : ({ ofKind 2 with t := v0 } : Ev) = ge.1 := by rw [hge, HEV.out]
    have he2 : s0 = ge.2 := by rw [hge, HEV.out]
    have HGR : Hid (getR 2 bs = if ge.2.end_ ≠ 0 then (ofKind 0, ge.2.end_) else if rightR ge.1 = true then (ge.1, 0) else (ofKind 0, 12)) := by show _ = _; rw [hge]; rfl
    have H64 := HM64.out
    rw [← hge] at H64
    have HM := Lib.hid H64
    clear H64 HM64
    have hgE := HGE.out
    rw [he1, he2] at hgE
    have hPP : PRow (x0.setCell ⟨w1.heap.size, 3, none⟩ (.int .i64 v0)) none ge.1.pol.bands.length 0 ge.1.pol.bands ∧ PRow (x0.setCell ⟨w1.heap.size, 3, none⟩ (.int .i64 v0)) none ge.1.pol.slots.length 0 ge.1.pol.slots ∧ Sl (x0.setCell ⟨w1.heap.size, 3, none⟩ (.int .i64 v0)) (World.heap (x0.setCell ⟨w1.heap.size, 3, none⟩ (.int .i64 v0))).size none ge.1.body.length 0 ge.1.body ∧ ∀ k o, ((none : Option Addr) = some ⟨k, o, none⟩ ∨ (none : Option Addr) = some ⟨k, o, none⟩ ∨ (none : Option Addr) = some ⟨k, o, none⟩) → w.heap.size < k := by rw [← he1]; exact HPP.out
    clear he1 he2 hge HEV HGE HPP
    have HGE := Lib.hid hgE
    have HPP := Lib.hid hPP
    have CE := Lib.hid (rend_any hgE.rdr)
    clear hgE hPP
    go_wp2_with fail
    refine CE.out.mono ?_
    rintro r w5 ⟨rfl, h5⟩
    have H5 := Lib.hid (And.intro ((h5.block _ (lt_of_heap HGE.out.blk)).trans HGE.out.blk) (And.intro ((h5.block _ (lt_of_heap HGE.out.res)).trans HGE.out.res) (And.intro (bel2 HGE.out.bel h5) h5)))
    clear h5 CE
    by_cases he : ge.2.end_ = 0
    · have ne : (((ge.2.end_ : Nat) : Int) != 0) = false := by simp [he]
      have hg := HGR.out
      rw [if_neg (by simp [he])] at hg
      have CR := Lib.hid (dright_any (w := w5) (a1 := none) (a2 := none) (a3 := none) (c1 := 0) (c2 := 0) (c3 := 0) ge.1 (HPP.out.1.on H5.out.2.2.2) (HPP.out.2.1.on H5.out.2.2.2))
      have HG2 := Lib.hid hg
      clear he hg
      go_wp2_with (first
        | (refine wpList_load_row (by rfl) 30 (.tmp 7) (by rfl) w1.heap.size (by rfl) 30 (evC ge.1 none none none 0 0 0) (0, 0) _ H5.out.1 Try.underlying30 (by rfl) (by kernel_rfl) ?_))
      refine CR.out.mono ?_
      rintro r w6 ⟨rfl, h6⟩
      have H6 := Lib.hid (And.intro ((h6.block _ (lt_of_heap H5.out.1)).trans H5.out.1) (And.intro ((h6.block _ (lt_of_heap H5.out.2.1)).trans H5.out.2.1) (And.intro (bel2 H5.out.2.2.1 h6) (bel2 H5.out.2.2.2 h6))))
      clear h6 CR
      cases hx : rightR ge.1
      · have hg := HG2.out
        rw [if_neg (by rw [hx]; decide)] at hg
        have HG3 := Lib.hid hg
        clear hx hg
        go_wp2_with (first
          | (refine wpList_store_mid (by rfl) 30 (.tmp 4) (.tmp 69) (by rfl) w.heap.size 0 (evC (ofKind 0) none none none 0 0 0) (by rfl) (by rfl) (there_of_block H6.out.2.1 (Nat.le_refl 27)) (by kernel_rfl) (by kernel_rfl) ?_))
        refine bodyPost_ret (results_row_tmp1 rfl _ _ w.heap.size _ _ _ _ rfl (store27 H6.out.2.1 rfl) Try.underlying30 (by rfl) (by kernel_rfl)) (by rfl) ?_
        refine ⟨none, none, none, 0, 0, 0, ?_, ?_, below_setCells' _ (Nat.le_refl _) _ _ H6.out.2.2.1⟩
        · rw [HG3.out]; rfl
        · rw [HG3.out]; exact ⟨PRow.nil_, PRow.nil_, Sl.nil_, ofKind64 i64_0⟩
      · have hg := HG2.out
        rw [if_pos hx] at hg
        have HG3 := Lib.hid hg
        clear hx hg
        go_wp2_with (first
          | (refine wpList_load_row (by rfl) 30 (.tmp 7) (by rfl) w1.heap.size (by rfl) 30 (evC ge.1 none none none 0 0 0) (0, 0) _ H6.out.1 Try.underlying30 (by rfl) (by kernel_rfl) ?_)
          | (refine wpList_store_mid (by rfl) 30 (.tmp 4) (.tmp 70) (by rfl) w.heap.size 0 (evC ge.1 none none none 0 0 0) (by rfl) (by rfl) (there_of_block H6.out.2.1 (Nat.le_refl 27)) (by kernel_rfl) (by kernel_rfl) ?_))
        refine bodyPost_ret (results_row_tmp1 rfl _ _ w.heap.size _ _ _ _ rfl (store27 H6.out.2.1 rfl) Try.underlying30 (by rfl) (by kernel_rfl)) (by rfl) ?_
        have hb7 : But (fun k => k = w.heap.size) w6 (w6.setCells w.heap.size 0 (evC ge.1 none none none 0 0 0).toList) := but_setCells _ _ _ _
        have p1 := (HPP.out.1.on H6.out.2.2.2)
        have p2 := (HPP.out.2.1.on H6.out.2.2.2)
        have p3 := ((HPP.out.2.2.1.below H6.out.2.2.2 (Nat.le_refl _)).more H6.out.2.2.2.size)
        have q := HPP.out.2.2.2
        refine ⟨none, none, none, 0, 0, 0, ?_, ?_, below_setCells' _ (Nat.le_refl _) _ _ H6.out.2.2.1⟩
        · rw [HG3.out]; rfl
        · rw [HG3.out]
          exact ⟨p1.keep hb7 (fun _ k o e h => by have := q k o (.inl e); omega), p2.keep hb7 (fun _ k o e h => by have := q k o (.inr (.inl e)); omega),
            p3.same_ hb7.size (fun hp k o e => hb7.block k (by obtain ⟨b', o', e', hlt, _⟩ := p3.at_ hp; rw [e] at e'; injection e' with e'; injection e' with e'; omega) (fun h => by have := q k o (.inr (.inr e)); omega)), HM.out.1⟩
    · have ne : (((ge.2.end_ : Nat) : Int) != 0) = true := by simpa using he
      have hg := HGR.out
      rw [if_pos he] at hg
      have HG3 := Lib.hid hg
      clear he hg
      generalize ge.2.end_ = en at *
      go_wp2_with (first
        | (refine wpList_store_mid (by rfl) 30 (.tmp 4) (.tmp 64) (by rfl) w.heap.size 0 (evC (ofKind 0) none none none 0 0 0) (by rfl) (by rfl) (there_of_block H5.out.2.1 (Nat.le_refl 27)) (by kernel_rfl) (by kernel_rfl) ?_))
      refine bodyPost_ret (results_row_tmp1 rfl _ _ w.heap.size _ _ _ _ rfl (store27 H5.out.2.1 rfl) Try.underlying30 (by rfl) (by kernel_rfl)) (by rfl) ?_
      refine ⟨none, none, none, 0, 0, 0, ?_, ?_, below_setCells' _ (Nat.le_refl _) _ _ H5.out.2.2.1⟩
      · rw [HG3.out]; rfl
      · rw [HG3.out]; exact ⟨PRow.nil_, PRow.nil_, Sl.nil_, ofKind64 i64_0⟩
  · have HM64 := Lib.hid (get64 (s := ⟨bs, 0, 0⟩) HGE.out.rdr.ok hk64.out)
    obtain ⟨v0, s0, h0⟩ : ∃ v0 s0, RS.num ⟨bs, 0, 0⟩ = (v0, s0) := ⟨_, _, rfl⟩
    have K0 := Lib.hid h0
    obtain ⟨pl, sp, hp⟩ : ∃ pl sp, getPl s0 = (pl, sp) := ⟨_, _, rfl⟩
    have KP := Lib.hid hp
    have HEV : Hid (getEv 3 ⟨bs, 0, 0⟩ = (({ ofKind 3 with id := v0, pol := pl } : Ev), sp)) := by
      show _ = _
      unfold getEv
      simp [h0, hp]
    clear h0 hp
    go_wp2_with (first | ((try rw [hEQ.out]); refine wpList_store_mid (by rfl) 30 (.tmp 7) (.tmp 12) (by rfl) w1.heap.size 0 (evC (ofKind 3) none none none 0 0 0) (by rfl) (by rfl) (there_of_block HZC.out (Nat.le_refl 27)) (by kernel_rfl) (by kernel_rfl) ?_; rw [hS3.out]))
    refine (rnum_any HGE.out.rdr).mono ?_
    rintro e x0 ⟨rfl, hr, hq⟩
    rw [K0.out] at hr ⊢
    simp only at hr ⊢
    have hg := HGE.out.read hr hq
    clear HGE hr hq
    have hz := hg.cell (j := 4) (v := .int .i64 0) rfl
    obtain ⟨q, z⟩ := hz
    have hn := hg.set 4 (.int .i64 v0)
    rw [ge4] at hn
    have HGE := Lib.hid hn
    clear hg hn
    go_wp2_with fail
    clear q z
    refine (dgetPol_any HGE.out.rdr).mono ?_
    rintro e y ⟨b1, b2, f1, f2, rfl, hr, hq, pr1, pr2, hfar⟩
    rw [KP.out] at hr pr1 pr2 ⊢
    simp only at hr pr1 pr2 ⊢
    unfold plV
    have hlt := lt_of_heap HGE.out.blk
    have hsb := HGE.out.sb
    have hg := HGE.out.read hr hq
    have hn := GE.sets (#[.int .i64 pl.kind, .int .i64 pl.target, .slice b1 pl.bands.length f1, .int .i64 pl.kp, .int .i64 pl.ki, .int .i64 pl.kd, .int .i64 pl.period, .slice b2 pl.slots.length f2]).toList 6 y _ hg
    rw [gePol] at hn
    have hbs := but_setCells w1.heap.size (#[.int .i64 pl.kind, .int .i64 pl.target, .slice b1 pl.bands.length f1, .int .i64 pl.kp, .int .i64 pl.ki, .int .i64 pl.kd, .int .i64 pl.period, .slice b2 pl.slots.length f2]).toList 6 y
    obtain ⟨wS, hwS⟩ : ∃ x, x = y.setCells w1.heap.size 6 (#[.int .i64 pl.kind, .int .i64 pl.target, .slice b1 pl.bands.length f1, .int .i64 pl.kp, .int .i64 pl.ki, .int .i64 pl.kd, .int .i64 pl.period, .slice b2 pl.slots.length f2]).toList := ⟨_, rfl⟩
    rw [← hwS] at hn hbs
    have hS : Hid (y.setCells w1.heap.size 6 (#[.int .i64 pl.kind, .int .i64 pl.target, .slice b1 pl.bands.length f1, .int .i64 pl.kp, .int .i64 pl.ki, .int .i64 pl.kd, .int .i64 pl.period, .slice b2 pl.slots.length f2]).toList = wS) := hwS.symm
    clear hwS
    have HPP : Hid (PRow wS b1 (({ ofKind 3 with id := v0, pol := pl } : Ev)).pol.bands.length f1 (({ ofKind 3 with id := v0, pol := pl } : Ev)).pol.bands ∧ PRow wS b2 (({ ofKind 3 with id := v0, pol := pl } : Ev)).pol.slots.length f2 (({ ofKind 3 with id := v0, pol := pl } : Ev)).pol.slots ∧ Sl wS (World.heap wS).size none (({ ofKind 3 with id := v0, pol := pl } : Ev)).body.length 0 (({ ofKind 3 with id := v0, pol := pl } : Ev)).body ∧ ∀ k o, (b1 = some ⟨k, o, none⟩ ∨ b2 = some ⟨k, o, none⟩ ∨ (none : Option Addr) = some ⟨k, o, none⟩) → w.heap.size < k) := ⟨pr1.keep hbs (fun _ k o e h => by have := hfar k o (.inl e); omega), pr2.keep hbs (fun _ k o e h => by have := hfar k o (.inr e); omega), Sl.nil_, fun k o e => by rcases e with e | e | e; (have := hfar k o (.inl e); omega); (have := hfar k o (.inr e); omega); cases e⟩
    have HTH : Hid (y.there w1.heap.size 6 8) := there_mid hg.blk (by rw [evC_size]; decide)
    clear HGE
    have HGE := Lib.hid hn
    clear hg hn hbs hr hq pr1 pr2 hfar hlt hsb
    go_wp2_with (first | (refine wpList_store_mid (by rfl) 25 (.tmp 35) (.tmp 34) (by rfl) w1.heap.size 6 (#[.int .i64 pl.kind, .int .i64 pl.target, .slice b1 pl.bands.length f1, .int .i64 pl.kp, .int .i64 pl.ki, .int .i64 pl.kd, .int .i64 pl.period, .slice b2 pl.slots.length f2]) (by rfl) (by rfl) HTH.out (by kernel_rfl) (by kernel_rfl) ?_; rw [hS.out]))
    obtain ⟨ge, hge⟩ : ∃ ge, ge = getEv 3 ⟨bs, 0, 0⟩ := ⟨_, rfl⟩
    have he1 : ({ ofKind 3 with id := v0, pol := pl } : Ev) = ge.1 := by rw [hge, HEV.out]
    have he2 : sp = ge.2 := by rw [hge, HEV.out]
    have HGR : Hid (getR 3 bs = if ge.2.end_ ≠ 0 then (ofKind 0, ge.2.end_) else if rightR ge.1 = true then (ge.1, 0) else (ofKind 0, 12)) := by show _ = _; rw [hge]; rfl
    have H64 := HM64.out
    rw [← hge] at H64
    have HM := Lib.hid H64
    clear H64 HM64
    have hgE := HGE.out
    rw [he1, he2] at hgE
    have hPP : PRow wS b1 ge.1.pol.bands.length f1 ge.1.pol.bands ∧ PRow wS b2 ge.1.pol.slots.length f2 ge.1.pol.slots ∧ Sl wS (World.heap wS).size none ge.1.body.length 0 ge.1.body ∧ ∀ k o, ((b1 : Option Addr) = some ⟨k, o, none⟩ ∨ (b2 : Option Addr) = some ⟨k, o, none⟩ ∨ (none : Option Addr) = some ⟨k, o, none⟩) → w.heap.size < k := by rw [← he1]; exact HPP.out
    clear he1 he2 hge HEV HGE HPP
    have HGE := Lib.hid hgE
    have HPP := Lib.hid hPP
    have CE := Lib.hid (rend_any hgE.rdr)
    clear hgE hPP
    go_wp2_with fail
    refine CE.out.mono ?_
    rintro r w5 ⟨rfl, h5⟩
    have H5 := Lib.hid (And.intro ((h5.block _ (lt_of_heap HGE.out.blk)).trans HGE.out.blk) (And.intro ((h5.block _ (lt_of_heap HGE.out.res)).trans HGE.out.res) (And.intro (bel2 HGE.out.bel h5) h5)))
    clear h5 CE
    by_cases he : ge.2.end_ = 0
    · have ne : (((ge.2.end_ : Nat) : Int) != 0) = false := by simp [he]
      have hg := HGR.out
      rw [if_neg (by simp [he])] at hg
      have CR := Lib.hid (dright_any (w := w5) (a1 := b1) (a2 := b2) (a3 := none) (c1 := f1) (c2 := f2) (c3 := 0) ge.1 (HPP.out.1.on H5.out.2.2.2) (HPP.out.2.1.on H5.out.2.2.2))
      have HG2 := Lib.hid hg
      clear he hg
      go_wp2_with (first
        | (refine wpList_load_row (by rfl) 30 (.tmp 7) (by rfl) w1.heap.size (by rfl) 30 (evC ge.1 b1 b2 none f1 f2 0) (0, 0) _ H5.out.1 Try.underlying30 (by rfl) (by kernel_rfl) ?_))
      refine CR.out.mono ?_
      rintro r w6 ⟨rfl, h6⟩
      have H6 := Lib.hid (And.intro ((h6.block _ (lt_of_heap H5.out.1)).trans H5.out.1) (And.intro ((h6.block _ (lt_of_heap H5.out.2.1)).trans H5.out.2.1) (And.intro (bel2 H5.out.2.2.1 h6) (bel2 H5.out.2.2.2 h6))))
      clear h6 CR
      cases hx : rightR ge.1
      · have hg := HG2.out
        rw [if_neg (by rw [hx]; decide)] at hg
        have HG3 := Lib.hid hg
        clear hx hg
        go_wp2_with (first
          | (refine wpList_store_mid (by rfl) 30 (.tmp 4) (.tmp 69) (by rfl) w.heap.size 0 (evC (ofKind 0) none none none 0 0 0) (by rfl) (by rfl) (there_of_block H6.out.2.1 (Nat.le_refl 27)) (by kernel_rfl) (by kernel_rfl) ?_))
        refine bodyPost_ret (results_row_tmp1 rfl _ _ w.heap.size _ _ _ _ rfl (store27 H6.out.2.1 rfl) Try.underlying30 (by rfl) (by kernel_rfl)) (by rfl) ?_
        refine ⟨none, none, none, 0, 0, 0, ?_, ?_, below_setCells' _ (Nat.le_refl _) _ _ H6.out.2.2.1⟩
        · rw [HG3.out]; rfl
        · rw [HG3.out]; exact ⟨PRow.nil_, PRow.nil_, Sl.nil_, ofKind64 i64_0⟩
      · have hg := HG2.out
        rw [if_pos hx] at hg
        have HG3 := Lib.hid hg
        clear hx hg
        go_wp2_with (first
          | (refine wpList_load_row (by rfl) 30 (.tmp 7) (by rfl) w1.heap.size (by rfl) 30 (evC ge.1 b1 b2 none f1 f2 0) (0, 0) _ H6.out.1 Try.underlying30 (by rfl) (by kernel_rfl) ?_)
          | (refine wpList_store_mid (by rfl) 30 (.tmp 4) (.tmp 70) (by rfl) w.heap.size 0 (evC ge.1 b1 b2 none f1 f2 0) (by rfl) (by rfl) (there_of_block H6.out.2.1 (Nat.le_refl 27)) (by kernel_rfl) (by kernel_rfl) ?_))
        refine bodyPost_ret (results_row_tmp1 rfl _ _ w.heap.size _ _ _ _ rfl (store27 H6.out.2.1 rfl) Try.underlying30 (by rfl) (by kernel_rfl)) (by rfl) ?_
        have hb7 : But (fun k => k = w.heap.size) w6 (w6.setCells w.heap.size 0 (evC ge.1 b1 b2 none f1 f2 0).toList) := but_setCells _ _ _ _
        have p1 := (HPP.out.1.on H6.out.2.2.2)
        have p2 := (HPP.out.2.1.on H6.out.2.2.2)
        have p3 := ((HPP.out.2.2.1.below H6.out.2.2.2 (Nat.le_refl _)).more H6.out.2.2.2.size)
        have q := HPP.out.2.2.2
        refine ⟨b1, b2, none, f1, f2, 0, ?_, ?_, below_setCells' _ (Nat.le_refl _) _ _ H6.out.2.2.1⟩
        · rw [HG3.out]; rfl
        · rw [HG3.out]
          exact ⟨p1.keep hb7 (fun _ k o e h => by have := q k o (.inl e); omega), p2.keep hb7 (fun _ k o e h => by have := q k o (.inr (.inl e)); omega),
            p3.same_ hb7.size (fun hp k o e => hb7.block k (by obtain ⟨b', o', e', hlt, _⟩ := p3.at_ hp; rw [e] at e'; injection e' with e'; injection e' with e'; omega) (fun h => by have := q k o (.inr (.inr e)); omega)), HM.out.1⟩
    · have ne : (((ge.2.end_ : Nat) : Int) != 0) = true := by simpa using he
      have hg := HGR.out
      rw [if_pos he] at hg
      have HG3 := Lib.hid hg
      clear he hg
      generalize ge.2.end_ = en at *
      go_wp2_with (first
        | (refine wpList_store_mid (by rfl) 30 (.tmp 4) (.tmp 64) (by rfl) w.heap.size 0 (evC (ofKind 0) none none none 0 0 0) (by rfl) (by rfl) (there_of_block H5.out.2.1 (Nat.le_refl 27)) (by kernel_rfl) (by kernel_rfl) ?_))
      refine bodyPost_ret (results_row_tmp1 rfl _ _ w.heap.size _ _ _ _ rfl (store27 H5.out.2.1 rfl) Try.underlying30 (by rfl) (by kernel_rfl)) (by rfl) ?_
      refine ⟨none, none, none, 0, 0, 0, ?_, ?_, below_setCells' _ (Nat.le_refl _) _ _ H5.out.2.2.1⟩
      · rw [HG3.out]; rfl
      · rw [HG3.out]; exact ⟨PRow.nil_, PRow.nil_, Sl.nil_, ofKind64 i64_0⟩
  · have HM64 := Lib.hid (get64 (s := ⟨bs, 0, 0⟩) HGE.out.rdr.ok hk64.out)
    obtain ⟨cf, sp, hp⟩ : ∃ cf sp, getCf ⟨bs, 0, 0⟩ = (cf, sp) := ⟨_, _, rfl⟩
    have KP := Lib.hid hp
    have HEV : Hid (getEv 4 ⟨bs, 0, 0⟩ = (({ ofKind 4 with conf := cf } : Ev), sp)) := by
      show _ = _
      unfold getEv
      simp [hp]
    clear hp
    go_wp2_with (first | ((try rw [hEQ.out]); refine wpList_store_mid (by rfl) 30 (.tmp 7) (.tmp 12) (by rfl) w1.heap.size 0 (evC (ofKind 4) none none none 0 0 0) (by rfl) (by rfl) (there_of_block HZC.out (Nat.le_refl 27)) (by kernel_rfl) (by kernel_rfl) ?_; rw [hS3.out]))
    refine (dgetConf_any HGE.out.rdr).mono ?_
    rintro e y ⟨rfl, hr, hq⟩
    rw [KP.out] at hr ⊢
    simp only at hr ⊢
    unfold cfV
    have hg := HGE.out.read hr hq
    have hn := GE.sets (#[.int .i64 cf.min, .int .i64 cf.max, .int .i64 cf.rate, .int .i64 cf.stable, .int .i64 cf.cap, .int .i64 cf.delay, .int .i64 cf.slack, .int .i64 cf.window, .int .i64 cf.margin, .int .i64 cf.ceil, .int .i64 cf.probe, .int .i64 cf.breach]).toList 14 y _ hg
    rw [geConf] at hn
    obtain ⟨wS, hwS⟩ : ∃ x, x = y.setCells w1.heap.size 14 (#[.int .i64 cf.min, .int .i64 cf.max, .int .i64 cf.rate, .int .i64 cf.stable, .int .i64 cf.cap, .int .i64 cf.delay, .int .i64 cf.slack, .int .i64 cf.window, .int .i64 cf.margin, .int .i64 cf.ceil, .int .i64 cf.probe, .int .i64 cf.breach]).toList := ⟨_, rfl⟩
    rw [← hwS] at hn
    have hS : Hid (y.setCells w1.heap.size 14 (#[.int .i64 cf.min, .int .i64 cf.max, .int .i64 cf.rate, .int .i64 cf.stable, .int .i64 cf.cap, .int .i64 cf.delay, .int .i64 cf.slack, .int .i64 cf.window, .int .i64 cf.margin, .int .i64 cf.ceil, .int .i64 cf.probe, .int .i64 cf.breach]).toList = wS) := hwS.symm
    clear hwS
    have HPP : Hid (PRow wS none (({ ofKind 4 with conf := cf } : Ev)).pol.bands.length 0 (({ ofKind 4 with conf := cf } : Ev)).pol.bands ∧ PRow wS none (({ ofKind 4 with conf := cf } : Ev)).pol.slots.length 0 (({ ofKind 4 with conf := cf } : Ev)).pol.slots ∧ Sl wS (World.heap wS).size none (({ ofKind 4 with conf := cf } : Ev)).body.length 0 (({ ofKind 4 with conf := cf } : Ev)).body ∧ ∀ k o, ((none : Option Addr) = some ⟨k, o, none⟩ ∨ (none : Option Addr) = some ⟨k, o, none⟩ ∨ (none : Option Addr) = some ⟨k, o, none⟩) → w.heap.size < k) := ⟨PRow.nil_, PRow.nil_, Sl.nil_, fun k o e => by rcases e with e | e | e <;> cases e⟩
    have HTH : Hid (y.there w1.heap.size 14 12) := there_mid hg.blk (by rw [evC_size]; decide)
    clear HGE
    have HGE := Lib.hid hn
    clear hg hn hr hq
    go_wp2_with (first | (refine wpList_store_mid (by rfl) 27 (.tmp 40) (.tmp 39) (by rfl) w1.heap.size 14 (#[.int .i64 cf.min, .int .i64 cf.max, .int .i64 cf.rate, .int .i64 cf.stable, .int .i64 cf.cap, .int .i64 cf.delay, .int .i64 cf.slack, .int .i64 cf.window, .int .i64 cf.margin, .int .i64 cf.ceil, .int .i64 cf.probe, .int .i64 cf.breach]) (by rfl) (by rfl) HTH.out (by kernel_rfl) (by kernel_rfl) ?_; rw [hS.out]))
    obtain ⟨ge, hge⟩ : ∃ ge, ge = getEv 4 ⟨bs, 0, 0⟩ := ⟨_, rfl⟩
    have he1 : ({ ofKind 4 with conf := cf } : Ev) = ge.1 := by rw [hge, HEV.out]
    have he2 : sp = ge.2 := by rw [hge, HEV.out]
    have HGR : Hid (getR 4 bs = if ge.2.end_ ≠ 0 then (ofKind 0, ge.2.end_) else if rightR ge.1 = true then (ge.1, 0) else (ofKind 0, 12)) := by show _ = _; rw [hge]; rfl
    have H64 := HM64.out
    rw [← hge] at H64
    have HM := Lib.hid H64
    clear H64 HM64
    have hgE := HGE.out
    rw [he1, he2] at hgE
    have hPP : PRow wS none ge.1.pol.bands.length 0 ge.1.pol.bands ∧ PRow wS none ge.1.pol.slots.length 0 ge.1.pol.slots ∧ Sl wS (World.heap wS).size none ge.1.body.length 0 ge.1.body ∧ ∀ k o, ((none : Option Addr) = some ⟨k, o, none⟩ ∨ (none : Option Addr) = some ⟨k, o, none⟩ ∨ (none : Option Addr) = some ⟨k, o, none⟩) → w.heap.size < k := by rw [← he1]; exact HPP.out
    clear he1 he2 hge HEV HGE HPP
    have HGE := Lib.hid hgE
    have HPP := Lib.hid hPP
    have CE := Lib.hid (rend_any hgE.rdr)
    clear hgE hPP
    go_wp2_with fail
    refine CE.out.mono ?_
    rintro r w5 ⟨rfl, h5⟩
    have H5 := Lib.hid (And.intro ((h5.block _ (lt_of_heap HGE.out.blk)).trans HGE.out.blk) (And.intro ((h5.block _ (lt_of_heap HGE.out.res)).trans HGE.out.res) (And.intro (bel2 HGE.out.bel h5) h5)))
    clear h5 CE
    by_cases he : ge.2.end_ = 0
    · have ne : (((ge.2.end_ : Nat) : Int) != 0) = false := by simp [he]
      have hg := HGR.out
      rw [if_neg (by simp [he])] at hg
      have CR := Lib.hid (dright_any (w := w5) (a1 := none) (a2 := none) (a3 := none) (c1 := 0) (c2 := 0) (c3 := 0) ge.1 (HPP.out.1.on H5.out.2.2.2) (HPP.out.2.1.on H5.out.2.2.2))
      have HG2 := Lib.hid hg
      clear he hg
      go_wp2_with (first
        | (refine wpList_load_row (by rfl) 30 (.tmp 7) (by rfl) w1.heap.size (by rfl) 30 (evC ge.1 none none none 0 0 0) (0, 0) _ H5.out.1 Try.underlying30 (by rfl) (by kernel_rfl) ?_))
      refine CR.out.mono ?_
      rintro r w6 ⟨rfl, h6⟩
      have H6 := Lib.hid (And.intro ((h6.block _ (lt_of_heap H5.out.1)).trans H5.out.1) (And.intro ((h6.block _ (lt_of_heap H5.out.2.1)).trans H5.out.2.1) (And.intro (bel2 H5.out.2.2.1 h6) (bel2 H5.out.2.2.2 h6))))
      clear h6 CR
      cases hx : rightR ge.1
      · have hg := HG2.out
        rw [if_neg (by rw [hx]; decide)] at hg
        have HG3 := Lib.hid hg
        clear hx hg
        go_wp2_with (first
          | (refine wpList_store_mid (by rfl) 30 (.tmp 4) (.tmp 69) (by rfl) w.heap.size 0 (evC (ofKind 0) none none none 0 0 0) (by rfl) (by rfl) (there_of_block H6.out.2.1 (Nat.le_refl 27)) (by kernel_rfl) (by kernel_rfl) ?_))
        refine bodyPost_ret (results_row_tmp1 rfl _ _ w.heap.size _ _ _ _ rfl (store27 H6.out.2.1 rfl) Try.underlying30 (by rfl) (by kernel_rfl)) (by rfl) ?_
        refine ⟨none, none, none, 0, 0, 0, ?_, ?_, below_setCells' _ (Nat.le_refl _) _ _ H6.out.2.2.1⟩
        · rw [HG3.out]; rfl
        · rw [HG3.out]; exact ⟨PRow.nil_, PRow.nil_, Sl.nil_, ofKind64 i64_0⟩
      · have hg := HG2.out
        rw [if_pos hx] at hg
        have HG3 := Lib.hid hg
        clear hx hg
        go_wp2_with (first
          | (refine wpList_load_row (by rfl) 30 (.tmp 7) (by rfl) w1.heap.size (by rfl) 30 (evC ge.1 none none none 0 0 0) (0, 0) _ H6.out.1 Try.underlying30 (by rfl) (by kernel_rfl) ?_)
          | (refine wpList_store_mid (by rfl) 30 (.tmp 4) (.tmp 70) (by rfl) w.heap.size 0 (evC ge.1 none none none 0 0 0) (by rfl) (by rfl) (there_of_block H6.out.2.1 (Nat.le_refl 27)) (by kernel_rfl) (by kernel_rfl) ?_))
        refine bodyPost_ret (results_row_tmp1 rfl _ _ w.heap.size _ _ _ _ rfl (store27 H6.out.2.1 rfl) Try.underlying30 (by rfl) (by kernel_rfl)) (by rfl) ?_
        have hb7 : But (fun k => k = w.heap.size) w6 (w6.setCells w.heap.size 0 (evC ge.1 none none none 0 0 0).toList) := but_setCells _ _ _ _
        have p1 := (HPP.out.1.on H6.out.2.2.2)
        have p2 := (HPP.out.2.1.on H6.out.2.2.2)
        have p3 := ((HPP.out.2.2.1.below H6.out.2.2.2 (Nat.le_refl _)).more H6.out.2.2.2.size)
        have q := HPP.out.2.2.2
        refine ⟨none, none, none, 0, 0, 0, ?_, ?_, below_setCells' _ (Nat.le_refl _) _ _ H6.out.2.2.1⟩
        · rw [HG3.out]; rfl
        · rw [HG3.out]
          exact ⟨p1.keep hb7 (fun _ k o e h => by have := q k o (.inl e); omega), p2.keep hb7 (fun _ k o e h => by have := q k o (.inr (.inl e)); omega),
            p3.same_ hb7.size (fun hp k o e => hb7.block k (by obtain ⟨b', o', e', hlt, _⟩ := p3.at_ hp; rw [e] at e'; injection e' with e'; injection e' with e'; omega) (fun h => by have := q k o (.inr (.inr e)); omega)), HM.out.1⟩
    · have ne : (((ge.2.end_ : Nat) : Int) != 0) = true := by simpa using he
      have hg := HGR.out
      rw [if_pos he] at hg
      have HG3 := Lib.hid hg
      clear he hg
      generalize ge.2.end_ = en at *
      go_wp2_with (first
        | (refine wpList_store_mid (by rfl) 30 (.tmp 4) (.tmp 64) (by rfl) w.heap.size 0 (evC (ofKind 0) none none none 0 0 0) (by rfl) (by rfl) (there_of_block H5.out.2.1 (Nat.le_refl 27)) (by kernel_rfl) (by kernel_rfl) ?_))
      refine bodyPost_ret (results_row_tmp1 rfl _ _ w.heap.size _ _ _ _ rfl (store27 H5.out.2.1 rfl) Try.underlying30 (by rfl) (by kernel_rfl)) (by rfl) ?_
      refine ⟨none, none, none, 0, 0, 0, ?_, ?_, below_setCells' _ (Nat.le_refl _) _ _ H5.out.2.2.1⟩
      · rw [HG3.out]; rfl
      · rw [HG3.out]; exact ⟨PRow.nil_, PRow.nil_, Sl.nil_, ofKind64 i64_0⟩
  · have HM64 := Lib.hid (get64 (s := ⟨bs, 0, 0⟩) HGE.out.rdr.ok hk64.out)
    obtain ⟨v0, s0, h0⟩ : ∃ v0 s0, RS.num ⟨bs, 0, 0⟩ = (v0, s0) := ⟨_, _, rfl⟩
    have K0 := Lib.hid h0
    obtain ⟨v1, s1, h1⟩ : ∃ v1 s1, RS.num s0 = (v1, s1) := ⟨_, _, rfl⟩
    have K1 := Lib.hid h1
    have HEV : Hid (getEv 5 ⟨bs, 0, 0⟩ = (({ ofKind 5 with t := v0, n := v1 } : Ev), s1)) := by
      show _ = _
      unfold getEv
      simp [h0, h1]
    clear h0 h1
    go_wp2_with (first | ((try rw [hEQ.out]); refine wpList_store_mid (by rfl) 30 (.tmp 7) (.tmp 12) (by rfl) w1.heap.size 0 (evC (ofKind 5) none none none 0 0 0) (by rfl) (by rfl) (there_of_block HZC.out (Nat.le_refl 27)) (by kernel_rfl) (by kernel_rfl) ?_; rw [hS3.out]))
    refine (rnum_any HGE.out.rdr).mono ?_
    rintro e x0 ⟨rfl, hr, hq⟩
    rw [K0.out] at hr ⊢
    simp only at hr ⊢
    have hg := HGE.out.read hr hq
    clear HGE hr hq
    have hz := hg.cell (j := 3) (v := .int .i64 0) rfl
    obtain ⟨q, z⟩ := hz
    have hn := hg.set 3 (.int .i64 v0)
    rw [ge3] at hn
    have HGE := Lib.hid hn
    clear hg hn
    go_wp2_with fail
    clear q z
    refine (rnum_any HGE.out.rdr).mono ?_
    rintro e x1 ⟨rfl, hr, hq⟩
    rw [K1.out] at hr ⊢
    simp only at hr ⊢
    have hg := HGE.out.read hr hq
    clear HGE hr hq
    have hz := hg.cell (j := 5) (v := .int .i64 0) rfl
    obtain ⟨q, z⟩ := hz
    have hn := hg.set 5 (.int .i64 v1)
    rw [ge5] at hn
    have HGE := Lib.hid hn
    clear hg hn
    have HPP : Hid (PRow (x1.setCell ⟨w1.heap.size, 5, none⟩ (.int .i64 v1)) none (({ ofKind 5 with t := v0, n := v1 } : Ev)).pol.bands.length 0 (({ ofKind 5 with t := v0, n := v1 } : Ev)).pol.bands ∧ PRow (x1.setCell ⟨w1.heap.size, 5, none⟩ (.int .i64 v1)) none (({ ofKind 5 with t := v0, n := v1 } : Ev)).pol.slots.length 0 (({ ofKind 5 with t := v0, n := v1 } : Ev)).pol.slots ∧ Sl (x1.setCell ⟨w1.heap.size, 5, none⟩ (.int .i64 v1)) (World.heap (x1.setCell ⟨w1.heap.size, 5, none⟩ (.int .i64 v1))).size none (({ ofKind 5 with t := v0, n := v1 } : Ev)).body.length 0 (({ ofKind 5 with t := v0, n := v1 } : Ev)).body ∧ ∀ k o, ((none : Option Addr) = some ⟨k, o, none⟩ ∨ (none : Option Addr) = some ⟨k, o, none⟩ ∨ (none : Option Addr) = some ⟨k, o, none⟩) → w.heap.size < k) := ⟨PRow.nil_, PRow.nil_, Sl.nil_, fun k o e => by rcases e with e | e | e <;> cases e⟩
    obtain ⟨ge, hge⟩ : ∃ ge, ge = getEv 5 ⟨bs, 0, 0⟩ := ⟨_, rfl⟩
    have he1 : ({ ofKind 5 with t := v0, n := v1 } : Ev) = ge.1 := by rw [hge, HEV.out]
    have he2 : s1 = ge.2 := by rw [hge, HEV.out]
    have HGR : Hid (getR 5 bs = if ge.2.end_ ≠ 0 then (ofKind 0, ge.2.end_) else if rightR ge.1 = true then (ge.1, 0) else (ofKind 0, 12)) := by show _ = _; rw [hge]; rfl
    have H64 := HM64.out
    rw [← hge] at H64
    have HM := Lib.hid H64
    clear H64 HM64
    have hgE := HGE.out
    rw [he1, he2] at hgE
    have hPP : PRow (x1.setCell ⟨w1.heap.size, 5, none⟩ (.int .i64 v1)) none ge.1.pol.bands.length 0 ge.1.pol.bands ∧ PRow (x1.setCell ⟨w1.heap.size, 5, none⟩ (.int .i64 v1)) none ge.1.pol.slots.length 0 ge.1.pol.slots ∧ Sl (x1.setCell ⟨w1.heap.size, 5, none⟩ (.int .i64 v1)) (World.heap (x1.setCell ⟨w1.heap.size, 5, none⟩ (.int .i64 v1))).size none ge.1.body.length 0 ge.1.body ∧ ∀ k o, ((none : Option Addr) = some ⟨k, o, none⟩ ∨ (none : Option Addr) = some ⟨k, o, none⟩ ∨ (none : Option Addr) = some ⟨k, o, none⟩) → w.heap.size < k := by rw [← he1]; exact HPP.out
    clear he1 he2 hge HEV HGE HPP
    have HGE := Lib.hid hgE
    have HPP := Lib.hid hPP
    have CE := Lib.hid (rend_any hgE.rdr)
    clear hgE hPP
    go_wp2_with fail
    refine CE.out.mono ?_
    rintro r w5 ⟨rfl, h5⟩
    have H5 := Lib.hid (And.intro ((h5.block _ (lt_of_heap HGE.out.blk)).trans HGE.out.blk) (And.intro ((h5.block _ (lt_of_heap HGE.out.res)).trans HGE.out.res) (And.intro (bel2 HGE.out.bel h5) h5)))
    clear h5 CE
    by_cases he : ge.2.end_ = 0
    · have ne : (((ge.2.end_ : Nat) : Int) != 0) = false := by simp [he]
      have hg := HGR.out
      rw [if_neg (by simp [he])] at hg
      have CR := Lib.hid (dright_any (w := w5) (a1 := none) (a2 := none) (a3 := none) (c1 := 0) (c2 := 0) (c3 := 0) ge.1 (HPP.out.1.on H5.out.2.2.2) (HPP.out.2.1.on H5.out.2.2.2))
      have HG2 := Lib.hid hg
      clear he hg
      go_wp2_with (first
        | (refine wpList_load_row (by rfl) 30 (.tmp 7) (by rfl) w1.heap.size (by rfl) 30 (evC ge.1 none none none 0 0 0) (0, 0) _ H5.out.1 Try.underlying30 (by rfl) (by kernel_rfl) ?_))
      refine CR.out.mono ?_
      rintro r w6 ⟨rfl, h6⟩
      have H6 := Lib.hid (And.intro ((h6.block _ (lt_of_heap H5.out.1)).trans H5.out.1) (And.intro ((h6.block _ (lt_of_heap H5.out.2.1)).trans H5.out.2.1) (And.intro (bel2 H5.out.2.2.1 h6) (bel2 H5.out.2.2.2 h6))))
      clear h6 CR
      cases hx : rightR ge.1
      · have hg := HG2.out
        rw [if_neg (by rw [hx]; decide)] at hg
        have HG3 := Lib.hid hg
        clear hx hg
        go_wp2_with (first
          | (refine wpList_store_mid (by rfl) 30 (.tmp 4) (.tmp 69) (by rfl) w.heap.size 0 (evC (ofKind 0) none none none 0 0 0) (by rfl) (by rfl) (there_of_block H6.out.2.1 (Nat.le_refl 27)) (by kernel_rfl) (by kernel_rfl) ?_))
        refine bodyPost_ret (results_row_tmp1 rfl _ _ w.heap.size _ _ _ _ rfl (store27 H6.out.2.1 rfl) Try.underlying30 (by rfl) (by kernel_rfl)) (by rfl) ?_
        refine ⟨none, none, none, 0, 0, 0, ?_, ?_, below_setCells' _ (Nat.le_refl _) _ _ H6.out.2.2.1⟩
        · rw [HG3.out]; rfl
        · rw [HG3.out]; exact ⟨PRow.nil_, PRow.nil_, Sl.nil_, ofKind64 i64_0⟩
      · have hg := HG2.out
        rw [if_pos hx] at hg
        have HG3 := Lib.hid hg
        clear hx hg
        go_wp2_with (first
          | (refine wpList_load_row (by rfl) 30 (.tmp 7) (by rfl) w1.heap.size (by rfl) 30 (evC ge.1 none none none 0 0 0) (0, 0) _ H6.out.1 Try.underlying30 (by rfl) (by kernel_rfl) ?_)
          | (refine wpList_store_mid (by rfl) 30 (.tmp 4) (.tmp 70) (by rfl) w.heap.size 0 (evC ge.1 none none none 0 0 0) (by rfl) (by rfl) (there_of_block H6.out.2.1 (Nat.le_refl 27)) (by kernel_rfl) (by kernel_rfl) ?_))
        refine bodyPost_ret (results_row_tmp1 rfl _ _ w.heap.size _ _ _ _ rfl (store27 H6.out.2.1 rfl) Try.underlying30 (by rfl) (by kernel_rfl)) (by rfl) ?_
        have hb7 : But (fun k => k = w.heap.size) w6 (w6.setCells w.heap.size 0 (evC ge.1 none none none 0 0 0).toList) := but_setCells _ _ _ _
        have p1 := (HPP.out.1.on H6.out.2.2.2)
        have p2 := (HPP.out.2.1.on H6.out.2.2.2)
        have p3 := ((HPP.out.2.2.1.below H6.out.2.2.2 (Nat.le_refl _)).more H6.out.2.2.2.size)
        have q := HPP.out.2.2.2
        refine ⟨none, none, none, 0, 0, 0, ?_, ?_, below_setCells' _ (Nat.le_refl _) _ _ H6.out.2.2.1⟩
        · rw [HG3.out]; rfl
        · rw [HG3.out]
          exact ⟨p1.keep hb7 (fun _ k o e h => by have := q k o (.inl e); omega), p2.keep hb7 (fun _ k o e h => by have := q k o (.inr (.inl e)); omega),
            p3.same_ hb7.size (fun hp k o e => hb7.block k (by obtain ⟨b', o', e', hlt, _⟩ := p3.at_ hp; rw [e] at e'; injection e' with e'; injection e' with e'; omega) (fun h => by have := q k o (.inr (.inr e)); omega)), HM.out.1⟩
    · have ne : (((ge.2.end_ : Nat) : Int) != 0) = true := by simpa using he
      have hg := HGR.out
      rw [if_pos he] at hg
      have HG3 := Lib.hid hg
      clear he hg
      generalize ge.2.end_ = en at *
      go_wp2_with (first
        | (refine wpList_store_mid (by rfl) 30 (.tmp 4) (.tmp 64) (by rfl) w.heap.size 0 (evC (ofKind 0) none none none 0 0 0) (by rfl) (by rfl) (there_of_block H5.out.2.1 (Nat.le_refl 27)) (by kernel_rfl) (by kernel_rfl) ?_))
      refine bodyPost_ret (results_row_tmp1 rfl _ _ w.heap.size _ _ _ _ rfl (store27 H5.out.2.1 rfl) Try.underlying30 (by rfl) (by kernel_rfl)) (by rfl) ?_
      refine ⟨none, none, none, 0, 0, 0, ?_, ?_, below_setCells' _ (Nat.le_refl _) _ _ H5.out.2.2.1⟩
      · rw [HG3.out]; rfl
      · rw [HG3.out]; exact ⟨PRow.nil_, PRow.nil_, Sl.nil_, ofKind64 i64_0⟩
  · have HM64 := Lib.hid (get64 (s := ⟨bs, 0, 0⟩) HGE.out.rdr.ok hk64.out)
    obtain ⟨v0, s0, h0⟩ : ∃ v0 s0, RS.num ⟨bs, 0, 0⟩ = (v0, s0) := ⟨_, _, rfl⟩
    have K0 := Lib.hid h0
    have HEV : Hid (getEv 6 ⟨bs, 0, 0⟩ = (({ ofKind 6 with id := v0 } : Ev), s0)) := by
      show _ = _
      unfold getEv
      simp [h0]
    clear h0
    go_wp2_with (first | ((try rw [hEQ.out]); refine wpList_store_mid (by rfl) 30 (.tmp 7) (.tmp 12) (by rfl) w1.heap.size 0 (evC (ofKind 6) none none none 0 0 0) (by rfl) (by rfl) (there_of_block HZC.out (Nat.le_refl 27)) (by kernel_rfl) (by kernel_rfl) ?_; rw [hS3.out]))
    refine (rnum_any HGE.out.rdr).mono ?_
    rintro e x0 ⟨rfl, hr, hq⟩
    rw [K0.out] at hr ⊢
    simp only at hr ⊢
    have hg := HGE.out.read hr hq
    clear HGE hr hq
    have hz := hg.cell (j := 4) (v := .int .i64 0) rfl
    obtain ⟨q, z⟩ := hz
    have hn := hg.set 4 (.int .i64 v0)
    rw [ge4] at hn
    have HGE := Lib.hid hn
    clear hg hn
    have HPP : Hid (PRow (x0.setCell ⟨w1.heap.size, 4, none⟩ (.int .i64 v0)) none (({ ofKind 6 with id := v0 } : Ev)).pol.bands.length 0 (({ ofKind 6 with id := v0 } : Ev)).pol.bands ∧ PRow (x0.setCell ⟨w1.heap.size, 4, none⟩ (.int .i64 v0)) none (({ ofKind 6 with id := v0 } : Ev)).pol.slots.length 0 (({ ofKind 6 with id := v0 } : Ev)).pol.slots ∧ Sl (x0.setCell ⟨w1.heap.size, 4, none⟩ (.int .i64 v0)) (World.heap (x0.setCell ⟨w1.heap.size, 4, none⟩ (.int .i64 v0))).size none (({ ofKind 6 with id := v0 } : Ev)).body.length 0 (({ ofKind 6 with id := v0 } : Ev)).body ∧ ∀ k o, ((none : Option Addr) = some ⟨k, o, none⟩ ∨ (none : Option Addr) = some ⟨k, o, none⟩ ∨ (none : Option Addr) = some ⟨k, o, none⟩) → w.heap.size < k) := ⟨PRow.nil_, PRow.nil_, Sl.nil_, fun k o e => by rcases e with e | e | e <;> cases e⟩
    obtain ⟨ge, hge⟩ : ∃ ge, ge = getEv 6 ⟨bs, 0, 0⟩ := ⟨_, rfl⟩
    have he1 : ({ ofKind 6 with id := v0 } : Ev) = ge.1 := by rw [hge, HEV.out]
    have he2 : s0 = ge.2 := by rw [hge, HEV.out]
    have HGR : Hid (getR 6 bs = if ge.2.end_ ≠ 0 then (ofKind 0, ge.2.end_) else if rightR ge.1 = true then (ge.1, 0) else (ofKind 0, 12)) := by show _ = _; rw [hge]; rfl
    have H64 := HM64.out
    rw [← hge] at H64
    have HM := Lib.hid H64
    clear H64 HM64
    have hgE := HGE.out
    rw [he1, he2] at hgE
    have hPP : PRow (x0.setCell ⟨w1.heap.size, 4, none⟩ (.int .i64 v0)) none ge.1.pol.bands.length 0 ge.1.pol.bands ∧ PRow (x0.setCell ⟨w1.heap.size, 4, none⟩ (.int .i64 v0)) none ge.1.pol.slots.length 0 ge.1.pol.slots ∧ Sl (x0.setCell ⟨w1.heap.size, 4, none⟩ (.int .i64 v0)) (World.heap (x0.setCell ⟨w1.heap.size, 4, none⟩ (.int .i64 v0))).size none ge.1.body.length 0 ge.1.body ∧ ∀ k o, ((none : Option Addr) = some ⟨k, o, none⟩ ∨ (none : Option Addr) = some ⟨k, o, none⟩ ∨ (none : Option Addr) = some ⟨k, o, none⟩) → w.heap.size < k := by rw [← he1]; exact HPP.out
    clear he1 he2 hge HEV HGE HPP
    have HGE := Lib.hid hgE
    have HPP := Lib.hid hPP
    have CE := Lib.hid (rend_any hgE.rdr)
    clear hgE hPP
    go_wp2_with fail
    refine CE.out.mono ?_
    rintro r w5 ⟨rfl, h5⟩
    have H5 := Lib.hid (And.intro ((h5.block _ (lt_of_heap HGE.out.blk)).trans HGE.out.blk) (And.intro ((h5.block _ (lt_of_heap HGE.out.res)).trans HGE.out.res) (And.intro (bel2 HGE.out.bel h5) h5)))
    clear h5 CE
    by_cases he : ge.2.end_ = 0
    · have ne : (((ge.2.end_ : Nat) : Int) != 0) = false := by simp [he]
      have hg := HGR.out
      rw [if_neg (by simp [he])] at hg
      have CR := Lib.hid (dright_any (w := w5) (a1 := none) (a2 := none) (a3 := none) (c1 := 0) (c2 := 0) (c3 := 0) ge.1 (HPP.out.1.on H5.out.2.2.2) (HPP.out.2.1.on H5.out.2.2.2))
      have HG2 := Lib.hid hg
      clear he hg
      go_wp2_with (first
        | (refine wpList_load_row (by rfl) 30 (.tmp 7) (by rfl) w1.heap.size (by rfl) 30 (evC ge.1 none none none 0 0 0) (0, 0) _ H5.out.1 Try.underlying30 (by rfl) (by kernel_rfl) ?_))
      refine CR.out.mono ?_
      rintro r w6 ⟨rfl, h6⟩
      have H6 := Lib.hid (And.intro ((h6.block _ (lt_of_heap H5.out.1)).trans H5.out.1) (And.intro ((h6.block _ (lt_of_heap H5.out.2.1)).trans H5.out.2.1) (And.intro (bel2 H5.out.2.2.1 h6) (bel2 H5.out.2.2.2 h6))))
      clear h6 CR
      cases hx : rightR ge.1
      · have hg := HG2.out
        rw [if_neg (by rw [hx]; decide)] at hg
        have HG3 := Lib.hid hg
        clear hx hg
        go_wp2_with (first
          | (refine wpList_store_mid (by rfl) 30 (.tmp 4) (.tmp 69) (by rfl) w.heap.size 0 (evC (ofKind 0) none none none 0 0 0) (by rfl) (by rfl) (there_of_block H6.out.2.1 (Nat.le_refl 27)) (by kernel_rfl) (by kernel_rfl) ?_))
        refine bodyPost_ret (results_row_tmp1 rfl _ _ w.heap.size _ _ _ _ rfl (store27 H6.out.2.1 rfl) Try.underlying30 (by rfl) (by kernel_rfl)) (by rfl) ?_
        refine ⟨none, none, none, 0, 0, 0, ?_, ?_, below_setCells' _ (Nat.le_refl _) _ _ H6.out.2.2.1⟩
        · rw [HG3.out]; rfl
        · rw [HG3.out]; exact ⟨PRow.nil_, PRow.nil_, Sl.nil_, ofKind64 i64_0⟩
      · have hg := HG2.out
        rw [if_pos hx] at hg
        have HG3 := Lib.hid hg
        clear hx hg
        go_wp2_with (first
          | (refine wpList_load_row (by rfl) 30 (.tmp 7) (by rfl) w1.heap.size (by rfl) 30 (evC ge.1 none none none 0 0 0) (0, 0) _ H6.out.1 Try.underlying30 (by rfl) (by kernel_rfl) ?_)
          | (refine wpList_store_mid (by rfl) 30 (.tmp 4) (.tmp 70) (by rfl) w.heap.size 0 (evC ge.1 none none none 0 0 0) (by rfl) (by rfl) (there_of_block H6.out.2.1 (Nat.le_refl 27)) (by kernel_rfl) (by kernel_rfl) ?_))
        refine bodyPost_ret (results_row_tmp1 rfl _ _ w.heap.size _ _ _ _ rfl (store27 H6.out.2.1 rfl) Try.underlying30 (by rfl) (by kernel_rfl)) (by rfl) ?_
        have hb7 : But (fun k => k = w.heap.size) w6 (w6.setCells w.heap.size 0 (evC ge.1 none none none 0 0 0).toList) := but_setCells _ _ _ _
        have p1 := (HPP.out.1.on H6.out.2.2.2)
        have p2 := (HPP.out.2.1.on H6.out.2.2.2)
        have p3 := ((HPP.out.2.2.1.below H6.out.2.2.2 (Nat.le_refl _)).more H6.out.2.2.2.size)
        have q := HPP.out.2.2.2
        refine ⟨none, none, none, 0, 0, 0, ?_, ?_, below_setCells' _ (Nat.le_refl _) _ _ H6.out.2.2.1⟩
        · rw [HG3.out]; rfl
        · rw [HG3.out]
          exact ⟨p1.keep hb7 (fun _ k o e h => by have := q k o (.inl e); omega), p2.keep hb7 (fun _ k o e h => by have := q k o (.inr (.inl e)); omega),
            p3.same_ hb7.size (fun hp k o e => hb7.block k (by obtain ⟨b', o', e', hlt, _⟩ := p3.at_ hp; rw [e] at e'; injection e' with e'; injection e' with e'; omega) (fun h => by have := q k o (.inr (.inr e)); omega)), HM.out.1⟩
    · have ne : (((ge.2.end_ : Nat) : Int) != 0) = true := by simpa using he
      have hg := HGR.out
      rw [if_pos he] at hg
      have HG3 := Lib.hid hg
      clear he hg
      generalize ge.2.end_ = en at *
      go_wp2_with (first
        | (refine wpList_store_mid (by rfl) 30 (.tmp 4) (.tmp 64) (by rfl) w.heap.size 0 (evC (ofKind 0) none none none 0 0 0) (by rfl) (by rfl) (there_of_block H5.out.2.1 (Nat.le_refl 27)) (by kernel_rfl) (by kernel_rfl) ?_))
      refine bodyPost_ret (results_row_tmp1 rfl _ _ w.heap.size _ _ _ _ rfl (store27 H5.out.2.1 rfl) Try.underlying30 (by rfl) (by kernel_rfl)) (by rfl) ?_
      refine ⟨none, none, none, 0, 0, 0, ?_, ?_, below_setCells' _ (Nat.le_refl _) _ _ H5.out.2.2.1⟩
      · rw [HG3.out]; rfl
      · rw [HG3.out]; exact ⟨PRow.nil_, PRow.nil_, Sl.nil_, ofKind64 i64_0⟩
  · have HM64 := Lib.hid (get64 (s := ⟨bs, 0, 0⟩) HGE.out.rdr.ok hk64.out)
    obtain ⟨v0, s0, h0⟩ : ∃ v0 s0, RS.num ⟨bs, 0, 0⟩ = (v0, s0) := ⟨_, _, rfl⟩
    have K0 := Lib.hid h0
    have HEV : Hid (getEv 7 ⟨bs, 0, 0⟩ = (({ ofKind 7 with id := v0 } : Ev), s0)) := by
      show _ = _
      unfold getEv
      simp [h0]
    clear h0
    go_wp2_with (first | ((try rw [hEQ.out]); refine wpList_store_mid (by rfl) 30 (.tmp 7) (.tmp 12) (by rfl) w1.heap.size 0 (evC (ofKind 7) none none none 0 0 0) (by rfl) (by rfl) (there_of_block HZC.out (Nat.le_refl 27)) (by kernel_rfl) (by kernel_rfl) ?_; rw [hS3.out]))
    refine (rnum_any HGE.out.rdr).mono ?_
    rintro e x0 ⟨rfl, hr, hq⟩
    rw [K0.out] at hr ⊢
    simp only at hr ⊢
    have hg := HGE.out.read hr hq
    clear HGE hr hq
    have hz := hg.cell (j := 4) (v := .int .i64 0) rfl
    obtain ⟨q, z⟩ := hz
    have hn := hg.set 4 (.int .i64 v0)
    rw [ge4] at hn
    have HGE := Lib.hid hn
    clear hg hn
    have HPP : Hid (PRow (x0.setCell ⟨w1.heap.size, 4, none⟩ (.int .i64 v0)) none (({ ofKind 7 with id := v0 } : Ev)).pol.bands.length 0 (({ ofKind 7 with id := v0 } : Ev)).pol.bands ∧ PRow (x0.setCell ⟨w1.heap.size, 4, none⟩ (.int .i64 v0)) none (({ ofKind 7 with id := v0 } : Ev)).pol.slots.length 0 (({ ofKind 7 with id := v0 } : Ev)).pol.slots ∧ Sl (x0.setCell ⟨w1.heap.size, 4, none⟩ (.int .i64 v0)) (World.heap (x0.setCell ⟨w1.heap.size, 4, none⟩ (.int .i64 v0))).size none (({ ofKind 7 with id := v0 } : Ev)).body.length 0 (({ ofKind 7 with id := v0 } : Ev)).body ∧ ∀ k o, ((none : Option Addr) = some ⟨k, o, none⟩ ∨ (none : Option Addr) = some ⟨k, o, none⟩ ∨ (none : Option Addr) = some ⟨k, o, none⟩) → w.heap.size < k) := ⟨PRow.nil_, PRow.nil_, Sl.nil_, fun k o e => by rcases e with e | e | e <;> cases e⟩
    obtain ⟨ge, hge⟩ : ∃ ge, ge = getEv 7 ⟨bs, 0, 0⟩ := ⟨_, rfl⟩
    have he1 : ({ ofKind 7 with id := v0 } : Ev) = ge.1 := by rw [hge, HEV.out]
    have he2 : s0 = ge.2 := by rw [hge, HEV.out]
    have HGR : Hid (getR 7 bs = if ge.2.end_ ≠ 0 then (ofKind 0, ge.2.end_) else if rightR ge.1 = true then (ge.1, 0) else (ofKind 0, 12)) := by show _ = _; rw [hge]; rfl
    have H64 := HM64.out
    rw [← hge] at H64
    have HM := Lib.hid H64
    clear H64 HM64
    have hgE := HGE.out
    rw [he1, he2] at hgE
    have hPP : PRow (x0.setCell ⟨w1.heap.size, 4, none⟩ (.int .i64 v0)) none ge.1.pol.bands.length 0 ge.1.pol.bands ∧ PRow (x0.setCell ⟨w1.heap.size, 4, none⟩ (.int .i64 v0)) none ge.1.pol.slots.length 0 ge.1.pol.slots ∧ Sl (x0.setCell ⟨w1.heap.size, 4, none⟩ (.int .i64 v0)) (World.heap (x0.setCell ⟨w1.heap.size, 4, none⟩ (.int .i64 v0))).size none ge.1.body.length 0 ge.1.body ∧ ∀ k o, ((none : Option Addr) = some ⟨k, o, none⟩ ∨ (none : Option Addr) = some ⟨k, o, none⟩ ∨ (none : Option Addr) = some ⟨k, o, none⟩) → w.heap.size < k := by rw [← he1]; exact HPP.out
    clear he1 he2 hge HEV HGE HPP
    have HGE := Lib.hid hgE
    have HPP := Lib.hid hPP
    have CE := Lib.hid (rend_any hgE.rdr)
    clear hgE hPP
    go_wp2_with fail
    refine CE.out.mono ?_
    rintro r w5 ⟨rfl, h5⟩
    have H5 := Lib.hid (And.intro ((h5.block _ (lt_of_heap HGE.out.blk)).trans HGE.out.blk) (And.intro ((h5.block _ (lt_of_heap HGE.out.res)).trans HGE.out.res) (And.intro (bel2 HGE.out.bel h5) h5)))
    clear h5 CE
    by_cases he : ge.2.end_ = 0
    · have ne : (((ge.2.end_ : Nat) : Int) != 0) = false := by simp [he]
      have hg := HGR.out
      rw [if_neg (by simp [he])] at hg
      have CR := Lib.hid (dright_any (w := w5) (a1 := none) (a2 := none) (a3 := none) (c1 := 0) (c2 := 0) (c3 := 0) ge.1 (HPP.out.1.on H5.out.2.2.2) (HPP.out.2.1.on H5.out.2.2.2))
      have HG2 := Lib.hid hg
      clear he hg
      go_wp2_with (first
        | (refine wpList_load_row (by rfl) 30 (.tmp 7) (by rfl) w1.heap.size (by rfl) 30 (evC ge.1 none none none 0 0 0) (0, 0) _ H5.out.1 Try.underlying30 (by rfl) (by kernel_rfl) ?_))
      refine CR.out.mono ?_
      rintro r w6 ⟨rfl, h6⟩
      have H6 := Lib.hid (And.intro ((h6.block _ (lt_of_heap H5.out.1)).trans H5.out.1) (And.intro ((h6.block _ (lt_of_heap H5.out.2.1)).trans H5.out.2.1) (And.intro (bel2 H5.out.2.2.1 h6) (bel2 H5.out.2.2.2 h6))))
      clear h6 CR
      cases hx : rightR ge.1
      · have hg := HG2.out
        rw [if_neg (by rw [hx]; decide)] at hg
        have HG3 := Lib.hid hg
        clear hx hg
        go_wp2_with (first
          | (refine wpList_store_mid (by rfl) 30 (.tmp 4) (.tmp 69) (by rfl) w.heap.size 0 (evC (ofKind 0) none none none 0 0 0) (by rfl) (by rfl) (there_of_block H6.out.2.1 (Nat.le_refl 27)) (by kernel_rfl) (by kernel_rfl) ?_))
        refine bodyPost_ret (results_row_tmp1 rfl _ _ w.heap.size _ _ _ _ rfl (store27 H6.out.2.1 rfl) Try.underlying30 (by rfl) (by kernel_rfl)) (by rfl) ?_
        refine ⟨none, none, none, 0, 0, 0, ?_, ?_, below_setCells' _ (Nat.le_refl _) _ _ H6.out.2.2.1⟩
        · rw [HG3.out]; rfl
        · rw [HG3.out]; exact ⟨PRow.nil_, PRow.nil_, Sl.nil_, ofKind64 i64_0⟩
      · have hg := HG2.out
        rw [if_pos hx] at hg
        have HG3 := Lib.hid hg
        clear hx hg
        go_wp2_with (first
          | (refine wpList_load_row (by rfl) 30 (.tmp 7) (by rfl) w1.heap.size (by rfl) 30 (evC ge.1 none none none 0 0 0) (0, 0) _ H6.out.1 Try.underlying30 (by rfl) (by kernel_rfl) ?_)
          | (refine wpList_store_mid (by rfl) 30 (.tmp 4) (.tmp 70) (by rfl) w.heap.size 0 (evC ge.1 none none none 0 0 0) (by rfl) (by rfl) (there_of_block H6.out.2.1 (Nat.le_refl 27)) (by kernel_rfl) (by kernel_rfl) ?_))
        refine bodyPost_ret (results_row_tmp1 rfl _ _ w.heap.size _ _ _ _ rfl (store27 H6.out.2.1 rfl) Try.underlying30 (by rfl) (by kernel_rfl)) (by rfl) ?_
        have hb7 : But (fun k => k = w.heap.size) w6 (w6.setCells w.heap.size 0 (evC ge.1 none none none 0 0 0).toList) := but_setCells _ _ _ _
        have p1 := (HPP.out.1.on H6.out.2.2.2)
        have p2 := (HPP.out.2.1.on H6.out.2.2.2)
        have p3 := ((HPP.out.2.2.1.below H6.out.2.2.2 (Nat.le_refl _)).more H6.out.2.2.2.size)
        have q := HPP.out.2.2.2
        refine ⟨none, none, none, 0, 0, 0, ?_, ?_, below_setCells' _ (Nat.le_refl _) _ _ H6.out.2.2.1⟩
        · rw [HG3.out]; rfl
        · rw [HG3.out]
          exact ⟨p1.keep hb7 (fun _ k o e h => by have := q k o (.inl e); omega), p2.keep hb7 (fun _ k o e h => by have := q k o (.inr (.inl e)); omega),
            p3.same_ hb7.size (fun hp k o e => hb7.block k (by obtain ⟨b', o', e', hlt, _⟩ := p3.at_ hp; rw [e] at e'; injection e' with e'; injection e' with e'; omega) (fun h => by have := q k o (.inr (.inr e)); omega)), HM.out.1⟩
    · have ne : (((ge.2.end_ : Nat) : Int) != 0) = true := by simpa using he
      have hg := HGR.out
      rw [if_pos he] at hg
      have HG3 := Lib.hid hg
      clear he hg
      generalize ge.2.end_ = en at *
      go_wp2_with (first
        | (refine wpList_store_mid (by rfl) 30 (.tmp 4) (.tmp 64) (by rfl) w.heap.size 0 (evC (ofKind 0) none none none 0 0 0) (by rfl) (by rfl) (there_of_block H5.out.2.1 (Nat.le_refl 27)) (by kernel_rfl) (by kernel_rfl) ?_))
      refine bodyPost_ret (results_row_tmp1 rfl _ _ w.heap.size _ _ _ _ rfl (store27 H5.out.2.1 rfl) Try.underlying30 (by rfl) (by kernel_rfl)) (by rfl) ?_
      refine ⟨none, none, none, 0, 0, 0, ?_, ?_, below_setCells' _ (Nat.le_refl _) _ _ H5.out.2.2.1⟩
      · rw [HG3.out]; rfl
      · rw [HG3.out]; exact ⟨PRow.nil_, PRow.nil_, Sl.nil_, ofKind64 i64_0⟩
  · have HM64 := Lib.hid (get64 (s := ⟨bs, 0, 0⟩) HGE.out.rdr.ok hk64.out)
    obtain ⟨tx, sp, hp⟩ : ∃ tx sp, RS.text ⟨bs, 0, 0⟩ 1700 = (tx, sp) := ⟨_, _, rfl⟩
    have KP := Lib.hid hp
    have HEV : Hid (getEv 8 ⟨bs, 0, 0⟩ = (({ ofKind 8 with body := tx } : Ev), sp)) := by
      show _ = _
      unfold getEv
      simp [hp]
    clear hp
    go_wp2_with (first | ((try rw [hEQ.out]); refine wpList_store_mid (by rfl) 30 (.tmp 7) (.tmp 12) (by rfl) w1.heap.size 0 (evC (ofKind 8) none none none 0 0 0) (by rfl) (by rfl) (there_of_block HZC.out (Nat.le_refl 27)) (by kernel_rfl) (by kernel_rfl) ?_; rw [hS3.out]))
    refine (rtext_any HGE.out.rdr 1700).mono ?_
    rintro e y ⟨d3, f3, rfl, hs, hfar, hr, hq⟩
    rw [KP.out] at hr hs ⊢
    simp only at hr hs ⊢
    have hlt := lt_of_heap HGE.out.blk
    have hsb := HGE.out.sb
    have hg := HGE.out.read hr hq
    have hz := hg.cell (j := 26) (v := .slice none 0 0) rfl
    obtain ⟨q, z⟩ := hz
    have hn := hg.set 26 (.slice d3 tx.length f3)
    rw [ge26] at hn
    have HPP : Hid (PRow (y.setCell ⟨w1.heap.size, 26, none⟩ (.slice d3 tx.length f3)) none (({ ofKind 8 with body := tx } : Ev)).pol.bands.length 0 (({ ofKind 8 with body := tx } : Ev)).pol.bands ∧ PRow (y.setCell ⟨w1.heap.size, 26, none⟩ (.slice d3 tx.length f3)) none (({ ofKind 8 with body := tx } : Ev)).pol.slots.length 0 (({ ofKind 8 with body := tx } : Ev)).pol.slots ∧ Sl (y.setCell ⟨w1.heap.size, 26, none⟩ (.slice d3 tx.length f3)) (World.heap (y.setCell ⟨w1.heap.size, 26, none⟩ (.slice d3 tx.length f3))).size d3 (({ ofKind 8 with body := tx } : Ev)).body.length f3 (({ ofKind 8 with body := tx } : Ev)).body ∧ ∀ k o, ((none : Option Addr) = some ⟨k, o, none⟩ ∨ (none : Option Addr) = some ⟨k, o, none⟩ ∨ d3 = some ⟨k, o, none⟩) → w.heap.size < k) := ⟨PRow.nil_, PRow.nil_, hs.far_ hfar hlt _, fun k o e => by rcases e with e | e | e; cases e; cases e; (have := hfar k o e; omega)⟩
    clear HGE
    have HGE := Lib.hid hn
    clear hg hn hr hq hs hfar hlt hsb
    obtain ⟨ge, hge⟩ : ∃ ge, ge = getEv 8 ⟨bs, 0, 0⟩ := ⟨_, rfl⟩
    have he1 : ({ ofKind 8 with body := tx } : Ev) = ge.1 := by rw [hge, HEV.out]
    have he2 : sp = ge.2 := by rw [hge, HEV.out]
    have HGR : Hid (getR 8 bs = if ge.2.end_ ≠ 0 then (ofKind 0, ge.2.end_) else if rightR ge.1 = true then (ge.1, 0) else (ofKind 0, 12)) := by show _ = _; rw [hge]; rfl
    have H64 := HM64.out
    rw [← hge] at H64
    have HM := Lib.hid H64
    clear H64 HM64
    have hgE := HGE.out
    rw [he1, he2] at hgE
    have hPP : PRow (y.setCell ⟨w1.heap.size, 26, none⟩ (.slice d3 tx.length f3)) none ge.1.pol.bands.length 0 ge.1.pol.bands ∧ PRow (y.setCell ⟨w1.heap.size, 26, none⟩ (.slice d3 tx.length f3)) none ge.1.pol.slots.length 0 ge.1.pol.slots ∧ Sl (y.setCell ⟨w1.heap.size, 26, none⟩ (.slice d3 tx.length f3)) (World.heap (y.setCell ⟨w1.heap.size, 26, none⟩ (.slice d3 tx.length f3))).size d3 ge.1.body.length f3 ge.1.body ∧ ∀ k o, ((none : Option Addr) = some ⟨k, o, none⟩ ∨ (none : Option Addr) = some ⟨k, o, none⟩ ∨ (d3 : Option Addr) = some ⟨k, o, none⟩) → w.heap.size < k := by rw [← he1]; exact HPP.out
    clear he1 he2 hge HEV HGE HPP
    have HGE := Lib.hid hgE
    have HPP := Lib.hid hPP
    have CE := Lib.hid (rend_any hgE.rdr)
    clear hgE hPP
    go_wp2_with fail
    refine CE.out.mono ?_
    rintro r w5 ⟨rfl, h5⟩
    have H5 := Lib.hid (And.intro ((h5.block _ (lt_of_heap HGE.out.blk)).trans HGE.out.blk) (And.intro ((h5.block _ (lt_of_heap HGE.out.res)).trans HGE.out.res) (And.intro (bel2 HGE.out.bel h5) h5)))
    clear h5 CE
    by_cases he : ge.2.end_ = 0
    · have ne : (((ge.2.end_ : Nat) : Int) != 0) = false := by simp [he]
      have hg := HGR.out
      rw [if_neg (by simp [he])] at hg
      have CR := Lib.hid (dright_any (w := w5) (a1 := none) (a2 := none) (a3 := d3) (c1 := 0) (c2 := 0) (c3 := f3) ge.1 (HPP.out.1.on H5.out.2.2.2) (HPP.out.2.1.on H5.out.2.2.2))
      have HG2 := Lib.hid hg
      clear he hg
      go_wp2_with (first
        | (refine wpList_load_row (by rfl) 30 (.tmp 7) (by rfl) w1.heap.size (by rfl) 30 (evC ge.1 none none d3 0 0 f3) (0, 0) _ H5.out.1 Try.underlying30 (by rfl) (by kernel_rfl) ?_))
      refine CR.out.mono ?_
      rintro r w6 ⟨rfl, h6⟩
      have H6 := Lib.hid (And.intro ((h6.block _ (lt_of_heap H5.out.1)).trans H5.out.1) (And.intro ((h6.block _ (lt_of_heap H5.out.2.1)).trans H5.out.2.1) (And.intro (bel2 H5.out.2.2.1 h6) (bel2 H5.out.2.2.2 h6))))
      clear h6 CR
      cases hx : rightR ge.1
      · have hg := HG2.out
        rw [if_neg (by rw [hx]; decide)] at hg
        have HG3 := Lib.hid hg
        clear hx hg
        go_wp2_with (first
          | (refine wpList_store_mid (by rfl) 30 (.tmp 4) (.tmp 69) (by rfl) w.heap.size 0 (evC (ofKind 0) none none none 0 0 0) (by rfl) (by rfl) (there_of_block H6.out.2.1 (Nat.le_refl 27)) (by kernel_rfl) (by kernel_rfl) ?_))
        refine bodyPost_ret (results_row_tmp1 rfl _ _ w.heap.size _ _ _ _ rfl (store27 H6.out.2.1 rfl) Try.underlying30 (by rfl) (by kernel_rfl)) (by rfl) ?_
        refine ⟨none, none, none, 0, 0, 0, ?_, ?_, below_setCells' _ (Nat.le_refl _) _ _ H6.out.2.2.1⟩
        · rw [HG3.out]; rfl
        · rw [HG3.out]; exact ⟨PRow.nil_, PRow.nil_, Sl.nil_, ofKind64 i64_0⟩
      · have hg := HG2.out
        rw [if_pos hx] at hg
        have HG3 := Lib.hid hg
        clear hx hg
        go_wp2_with (first
          | (refine wpList_load_row (by rfl) 30 (.tmp 7) (by rfl) w1.heap.size (by rfl) 30 (evC ge.1 none none d3 0 0 f3) (0, 0) _ H6.out.1 Try.underlying30 (by rfl) (by kernel_rfl) ?_)
          | (refine wpList_store_mid (by rfl) 30 (.tmp 4) (.tmp 70) (by rfl) w.heap.size 0 (evC ge.1 none none d3 0 0 f3) (by rfl) (by rfl) (there_of_block H6.out.2.1 (Nat.le_refl 27)) (by kernel_rfl) (by kernel_rfl) ?_))
        refine bodyPost_ret (results_row_tmp1 rfl _ _ w.heap.size _ _ _ _ rfl (store27 H6.out.2.1 rfl) Try.underlying30 (by rfl) (by kernel_rfl)) (by rfl) ?_
        have hb7 : But (fun k => k = w.heap.size) w6 (w6.setCells w.heap.size 0 (evC ge.1 none none d3 0 0 f3).toList) := but_setCells _ _ _ _
        have p1 := (HPP.out.1.on H6.out.2.2.2)
        have p2 := (HPP.out.2.1.on H6.out.2.2.2)
        have p3 := ((HPP.out.2.2.1.below H6.out.2.2.2 (Nat.le_refl _)).more H6.out.2.2.2.size)
        have q := HPP.out.2.2.2
        refine ⟨none, none, d3, 0, 0, f3, ?_, ?_, below_setCells' _ (Nat.le_refl _) _ _ H6.out.2.2.1⟩
        · rw [HG3.out]; rfl
        · rw [HG3.out]
          exact ⟨p1.keep hb7 (fun _ k o e h => by have := q k o (.inl e); omega), p2.keep hb7 (fun _ k o e h => by have := q k o (.inr (.inl e)); omega),
            p3.same_ hb7.size (fun hp k o e => hb7.block k (by obtain ⟨b', o', e', hlt, _⟩ := p3.at_ hp; rw [e] at e'; injection e' with e'; injection e' with e'; omega) (fun h => by have := q k o (.inr (.inr e)); omega)), HM.out.1⟩
    · have ne : (((ge.2.end_ : Nat) : Int) != 0) = true := by simpa using he
      have hg := HGR.out
      rw [if_pos he] at hg
      have HG3 := Lib.hid hg
      clear he hg
      generalize ge.2.end_ = en at *
      go_wp2_with (first
        | (refine wpList_store_mid (by rfl) 30 (.tmp 4) (.tmp 64) (by rfl) w.heap.size 0 (evC (ofKind 0) none none none 0 0 0) (by rfl) (by rfl) (there_of_block H5.out.2.1 (Nat.le_refl 27)) (by kernel_rfl) (by kernel_rfl) ?_))
      refine bodyPost_ret (results_row_tmp1 rfl _ _ w.heap.size _ _ _ _ rfl (store27 H5.out.2.1 rfl) Try.underlying30 (by rfl) (by kernel_rfl)) (by rfl) ?_
      refine ⟨none, none, none, 0, 0, 0, ?_, ?_, below_setCells' _ (Nat.le_refl _) _ _ H5.out.2.2.1⟩
      · rw [HG3.out]; rfl
      · rw [HG3.out]; exact ⟨PRow.nil_, PRow.nil_, Sl.nil_, ofKind64 i64_0⟩
end
section
open Go.RowKit
open Wir Evn
attribute [local go_sem] Oper.semAt_some

theorem kind_at {w : World} {q : Nat} {e : Ev} {a1 a2 a3 : Option Addr} {c1 c2 c3 : Nat} {k : Int} (h : EvAt w q e a1 a2 a3 c1 c2 c3) (hk : e.kind = k) : w.cell? ⟨q, 0, none⟩ = some (.int .i64 k) := by
  rw [← hk]; exact evC_cell h.cells 0 _ rfl
theorem exec_load_row {P : Program} {o : Oper} {ρ : Operand → Value} {w : World} (ty : TypeId) (x : Operand) (ho : o.op = .load ty x)
    (g : Nat) (hx : ρ x = .pointer (some ⟨g, 0, none⟩)) (t : TypeId) (cs : Array Value) (fr : Nat × Nat) (d : TypeDesc) (hg : w.heap[g]? = some (.cells cs t fr))
    (hu : P.underlying ty = some d) (hd : (match d with | .struct _ | .array _ _ => true | _ => false) = true) (hi : (P.info? ty).map (·.size) = some cs.size) :
    (execOp ρ o).run P w = .ok (.value (.agg cs)) w := by
  unfold execOp
  simp only [ho, hx, Instr.loadAt, Instr.sureAddr, Sem.run_bind, Sem.run_pure, Result.andThen_ok, run_loadVar_row w g t ty cs fr d hg hu hd hi]
theorem dpol_to {w : World} {a1 a2 : Option Addr} {c1 c2 : Nat} {p : Pl} {b : Bool} (h : polR p = b) (h1 : PRow w a1 p.bands.length c1 p.bands) (h2 : PRow w a2 p.slots.length c2 p.slots) :
    Calls Try.prog 12 #[plV p a1 a2 c1 c2] w fun e w' => e = .returned (.bool b) ∧ Below w.heap.size w w' := h ▸ dpol_any p h1 h2
theorem dconf_to {w : World} {c : Cf} {b : Bool} (h : confR c = b) : Calls Try.prog 14 #[cfV c] w fun e w' => e = .returned (.bool b) ∧ Below w.heap.size w w' := h ▸ dconf_any c w
theorem dright_to {w : World} {a1 a2 a3 : Option Addr} {c1 c2 c3 : Nat} {e : Ev} {b : Bool} (h : rightR e = b) (hm : EvM w a1 a2 a3 c1 c2 c3 e) :
    Calls Try.prog 10 #[evV e a1 a2 a3 c1 c2 c3] w fun r w' => r = .returned (.bool b) ∧ Below w.heap.size w w' := h ▸ dright_any e hm.bands hm.slots
theorem exec_load_mid {P : Program} {o : Oper} {ρ : Operand → Value} {w : World} (ty : TypeId) (x : Operand) (ho : o.op = .load ty x)
    (g off : Nat) (hx : ρ x = .pointer (some ⟨g, off, none⟩)) (cs : List Value) (d : TypeDesc) (hc : w.rangeAt g off cs)
    (hu : P.underlying ty = some d) (hd : d.isRow = true) (hi : (P.info? ty).map (·.size) = some cs.length) :
    (execOp ρ o).run P w = .ok (.value (.agg cs.toArray)) w := by
  unfold execOp
  simp only [ho, hx, Instr.loadAt, Instr.sureAddr, Sem.run_bind, Sem.run_pure, Result.andThen_ok, run_loadVar_mid w g off ty cs d hc hu hd hi]
theorem pol_at {w : World} {q : Nat} {e : Ev} {a1 a2 a3 : Option Addr} {c1 c2 c3 : Nat} {U : TypeId} (h : w.heap[q]? = some (.cells (evC e a1 a2 a3 c1 c2 c3) U (0, 0))) : w.rangeAt q 6 [.int .i64 e.pol.kind, .int .i64 e.pol.target, .slice a1 e.pol.bands.length c1, .int .i64 e.pol.kp, .int .i64 e.pol.ki, .int .i64 e.pol.kd, .int .i64 e.pol.period, .slice a2 e.pol.slots.length c2] := by
  have h2 := World.rangeAt_of_block h 6 8
  have h3 : ((evC e a1 a2 a3 c1 c2 c3).extract 6 (6 + 8)).toList = [.int .i64 e.pol.kind, .int .i64 e.pol.target, .slice a1 e.pol.bands.length c1, .int .i64 e.pol.kp, .int .i64 e.pol.ki, .int .i64 e.pol.kd, .int .i64 e.pol.period, .slice a2 e.pol.slots.length c2] := by kernel_rfl
  rwa [h3] at h2
theorem cnf_at {w : World} {q : Nat} {e : Ev} {a1 a2 a3 : Option Addr} {c1 c2 c3 : Nat} {U : TypeId} (h : w.heap[q]? = some (.cells (evC e a1 a2 a3 c1 c2 c3) U (0, 0))) : w.rangeAt q 14 [.int .i64 e.conf.min, .int .i64 e.conf.max, .int .i64 e.conf.rate, .int .i64 e.conf.stable, .int .i64 e.conf.cap, .int .i64 e.conf.delay, .int .i64 e.conf.slack, .int .i64 e.conf.window, .int .i64 e.conf.margin, .int .i64 e.conf.ceil, .int .i64 e.conf.probe, .int .i64 e.conf.breach] := by
  have h2 := World.rangeAt_of_block h 14 12
  have h3 : ((evC e a1 a2 a3 c1 c2 c3).extract 14 (14 + 12)).toList = [.int .i64 e.conf.min, .int .i64 e.conf.max, .int .i64 e.conf.rate, .int .i64 e.conf.stable, .int .i64 e.conf.cap, .int .i64 e.conf.delay, .int .i64 e.conf.slack, .int .i64 e.conf.window, .int .i64 e.conf.margin, .int .i64 e.conf.ceil, .int .i64 e.conf.probe, .int .i64 e.conf.breach] := by kernel_rfl
  rwa [h3] at h2
set_option linter.unusedSimpArgs false in
set_option maxRecDepth 100000 in
set_option maxHeartbeats 6400000 in
theorem eventTells_walk {w : World} {a1 a2 a3 : Option Addr} {c1 c2 c3 : Nat} (e : Ev) (hm : EvM w a1 a2 a3 c1 c2 c3 e) (kind : Int) (hk : I64 kind) {ab : Option Addr} {lb cb : Nat} {bs : List Nat} (hs : Sl w w.heap.size ab lb cb bs) :
    Calls Try.prog 3 #[evV e a1 a2 a3 c1 c2 c3, .int .i64 kind, .slice ab lb cb] w fun r w' => r = .returned (.bool true) ∧ Below w.heap.size w w' := by
  have HS := Lib.hid (And.intro hk hs)
  clear hk hs
  have hbv := box_var hm
  have HB := Lib.hid hbv
  clear hbv hm
  unfold evV
  go_enter Try.func3, Try.ntmps3
  go_wp2_with fail
  refine (head_any _).mono ?_
  rintro r w1 ⟨rfl, h1⟩
  have V1 := Lib.hid (HB.out.1.on h1)
  have B1 := Lib.hid (bel2 HB.out.2 h1)
  clear h1 HB
  go_wp2_with (first | (refine wpList_load_row (by rfl) 30 (.tmp 3) (by rfl) w.heap.size (by rfl) 30 (evC e a1 a2 a3 c1 c2 c3) (0, 0) _ V1.out.cells Try.underlying30 (by rfl) (by kernel_rfl) ?_))
  refine (great_any e a1 a2 a3 c1 c2 c3 _).mono ?_
  rintro r w2 ⟨rfl, h2⟩
  have V2 := Lib.hid (V1.out.on h2)
  have B2 := Lib.hid (bel2 B1.out h2)
  clear h2 V1 B1
  cases hg : grtR e
  rotate_left
  · clear hg
    go_wp2
    go_ret
    exact ⟨rfl, B2.out⟩
  have hgr : e.pol.bands.length ≤ 60 ∧ e.pol.slots.length ≤ 60 ∧ e.body.length ≤ 3000 := by
    have := of_decide_eq_false hg
    omega
  have HG := Lib.hid hgr
  clear hg hgr
  by_cases hlb : 3000 < lb
  · have d1 : decide ((3000 : Int) < (lb : Int)) = true := by simp; omega
    go_wp2
    go_ret
    exact ⟨rfl, B2.out⟩
  have d1 : decide ((3000 : Int) < (lb : Int)) = false := by simp; omega
  have HL := Lib.hid hlb
  go_wp2_with fail
  refine (get_any kind HS.out.1 ((HS.out.2.below B2.out (Nat.le_refl _)).more B2.out.size) (by have := HL.out; omega)).mono ?_
  rintro r w3 ⟨g1, g2, g3, h1, h2, h3, rfl, hm3, hb3⟩
  obtain ⟨w4, e4, x4, b4⟩ := new_var hm3
  have B4 := Lib.hid (bel2 (bel2 B2.out hb3) b4)
  have V4 := Lib.hid (V2.out.on (bel2 hb3 b4))
  have HG2 : Hid (∀ d1 d2 d3 f1 f2 f3 wx, EvM wx d1 d2 d3 f1 f2 f3 (getR kind bs).1 → EvM wx d1 d2 d3 f1 f2 f3 (getR kind bs).1) := fun _ _ _ _ _ _ _ h => h
  have DG := Lib.hid (dget_any kind HS.out.1 ((HS.out.2.below B4.out (Nat.le_refl _)).more B4.out.size) (by have := HL.out; omega))
  generalize getR kind bs = yf at *
  obtain ⟨y, f⟩ := yf
  try simp only at x4 e4
  have X4 := Lib.hid x4
  have HE4 := Lib.hid e4
  clear hm3 hb3 b4 e4 x4 B2 V2 HG2 d1 hlb
  go_wp2_with (first | (refine wpList_store_mid (by rfl) 30 (.tmp 8) (.tmp 25) (by rfl) w3.heap.size 0 (evC y g1 g2 g3 h1 h2 h3) (by rfl) (by rfl) (there_new _ _) (by kernel_rfl) (by kernel_rfl) ?_; rw [HE4.out]))
  refine DG.out.mono ?_
  rintro r w5 ⟨d1, d2, d3, f1, f2, f3, rfl, hm5, hb5⟩
  obtain ⟨w6, e6, x6, b6⟩ := new_var hm5
  try simp only at x6 e6
  have B6 := Lib.hid (bel2 (bel2 B4.out hb5) b6)
  have V6 := Lib.hid (V4.out.on (bel2 hb5 b6))
  have X6 := Lib.hid (X4.out.on (bel2 hb5 b6))
  have Y6 := Lib.hid x6
  have HE6 := Lib.hid e6
  clear hm5 hb5 b6 e6 x6 B4 V4 X4 DG
  go_wp2_with (first | (refine wpList_store_mid (by rfl) 30 (.tmp 10) (.tmp 31) (by rfl) w5.heap.size 0 (evC y d1 d2 d3 f1 f2 f3) (by rfl) (by rfl) (there_new _ _) (by kernel_rfl) (by kernel_rfl) ?_; rw [HE6.out]))
  clear HE4 HE6
  generalize w3.heap.size = q1 at *
  generalize w5.heap.size = q2 at *
  obtain ⟨rr, hrr⟩ : ∃ rr, rightR e = rr := ⟨_, rfl⟩
  obtain ⟨rp, hrp⟩ : ∃ rr, polR e.pol = rr := ⟨_, rfl⟩
  obtain ⟨rc, hrc⟩ : ∃ rr, confR e.conf = rr := ⟨_, rfl⟩
  have HR := Lib.hid (And.intro hrr (And.intro hrp hrc))
  clear hrr hrp hrc
  refine wp_region_held_drew (S := fun x => x.heap[w.heap.size]? = some (.cells (evC e a1 a2 a3 c1 c2 c3) 30 (0, 0)) ∧ x.heap[q1]? = some (.cells (evC y g1 g2 g3 h1 h2 h3) 30 (0, 0)) ∧ x.heap[q2]? = some (.cells (evC y d1 d2 d3 f1 f2 f3) 30 (0, 0))) (by kernel_rfl) ⟨V6.out.cells, X6.out.cells, Y6.out.cells⟩ (fun hHeld => ?_)
  have V7 := Lib.hid (V6.out.on (Below.drew (Below.refl _ _)))
  have X7 := Lib.hid (X6.out.on (Below.drew (Below.refl _ _)))
  have Y7 := Lib.hid (Y6.out.on (Below.drew (Below.refl _ _)))
  have B7 := Lib.hid (Below.drew B6.out)
  clear V6 X6 Y6 B6
  refine wpAnyH_take (i := 0) (v := ?_) rfl (by kernel_rfl) (by kernel_rfl) (by kernel_rfl) (fun _ _ _ h => h) (Or.inl ⟨by rfl, ?_⟩) (by assumption) ?_
  rotate_left
  · intro w hSw
    (try dsimp only at hSw)
    go_simp
    all_goals with_reducible rfl
  try simp only [Act.put, List.getElem_toArray, List.getElem_cons_succ, List.getElem_cons_zero, List.setIfInBounds_toArray, List.set_cons_zero, List.set_cons_succ]
  refine wpAnyH_take (i := 1) (v := ?_) rfl (by kernel_rfl) (by kernel_rfl) (by kernel_rfl) (fun _ _ _ h => h) (Or.inl ⟨by rfl, ?_⟩) (by assumption) ?_
  rotate_left
  · intro w hSw
    (try dsimp only at hSw)
    go_simp
    all_goals with_reducible rfl
  try simp only [Act.put, List.getElem_toArray, List.getElem_cons_succ, List.getElem_cons_zero, List.setIfInBounds_toArray, List.set_cons_zero, List.set_cons_succ]
  refine wpAnyH_take (i := 2) (v := .agg (evC e a1 a2 a3 c1 c2 c3)) rfl (by kernel_rfl) (by kernel_rfl) (by kernel_rfl) (fun _ _ _ h => h) (Or.inl ⟨by rfl, fun w hS => exec_load_row 30 (.tmp 3) rfl _ rfl 30 (evC e a1 a2 a3 c1 c2 c3) (0, 0) _ hS.1 Try.underlying30 rfl (by kernel_rfl)⟩) (by assumption) ?_
  try simp only [Act.put, List.getElem_toArray, List.getElem_cons_succ, List.getElem_cons_zero, List.setIfInBounds_toArray, List.set_cons_zero, List.set_cons_succ]
  refine wpAnyH_take (i := 4) (v := .agg (evC e a1 a2 a3 c1 c2 c3)) rfl (by kernel_rfl) (by kernel_rfl) (by kernel_rfl) (fun _ _ _ h => h) (Or.inl ⟨by rfl, fun w hS => exec_load_row 30 (.tmp 3) rfl _ rfl 30 (evC e a1 a2 a3 c1 c2 c3) (0, 0) _ hS.1 Try.underlying30 rfl (by kernel_rfl)⟩) (by assumption) ?_
  try simp only [Act.put, List.getElem_toArray, List.getElem_cons_succ, List.getElem_cons_zero, List.setIfInBounds_toArray, List.set_cons_zero, List.set_cons_succ]
  refine wpAnyH_ready (rs := [3]) (by kernel_rfl) (by simp) ?_
  refine AllReadyH.cons rfl (fun K hK => ?_) AllReadyH.nil
  rw [if_pos (by rfl)]
  go_simp
  go_at_call 9
  refine (right_to HR.out.1 V7.out.mem).mono ?_
  rintro r x8 ⟨rfl, hb⟩
  have V8 := Lib.hid (V7.out.on hb)
  have X8 := Lib.hid (X7.out.on hb)
  have Y8 := Lib.hid (Y7.out.on hb)
  have B8 := Lib.hid (bel2 B7.out hb)
  clear V7 X7 Y7 B7
  clear hb
  refine hK.out _ _ ?_ (fun hHeld => ?_)
  · exact ⟨V8.out.cells, X8.out.cells, Y8.out.cells⟩
  clear hK K
  try simp only [Act.put, List.getElem_toArray, List.getElem_cons_succ, List.getElem_cons_zero, List.setIfInBounds_toArray, List.set_cons_zero, List.set_cons_succ]
  refine wpAnyH_ready (rs := [5]) (by kernel_rfl) (by simp) ?_
  refine AllReadyH.cons rfl (fun K hK => ?_) AllReadyH.nil
  rw [if_pos (by rfl)]
  go_simp
  go_at_call 10
  refine (dright_to HR.out.1 V8.out.mem).mono ?_
  rintro r x9 ⟨rfl, hb⟩
  have V9 := Lib.hid (V8.out.on hb)
  have X9 := Lib.hid (X8.out.on hb)
  have Y9 := Lib.hid (Y8.out.on hb)
  have B9 := Lib.hid (bel2 B8.out hb)
  clear V8 X8 Y8 B8
  clear hb
  refine hK.out _ _ ?_ (fun hHeld => ?_)
  · exact ⟨V9.out.cells, X9.out.cells, Y9.out.cells⟩
  clear hK K
  try simp only [Act.put, List.getElem_toArray, List.getElem_cons_succ, List.getElem_cons_zero, List.setIfInBounds_toArray, List.set_cons_zero, List.set_cons_succ]
  refine wpAnyH_take (i := 6) (v := ?_) rfl (by kernel_rfl) (by kernel_rfl) (by kernel_rfl) (fun _ _ _ h => h) (Or.inl ⟨by rfl, ?_⟩) (by assumption) ?_
  rotate_left
  · intro w hSw
    (try dsimp only at hSw)
    go_simp
    all_goals with_reducible rfl
  try simp only [Act.put, List.getElem_toArray, List.getElem_cons_succ, List.getElem_cons_zero, List.setIfInBounds_toArray, List.set_cons_zero, List.set_cons_succ]
  refine wpAnyH_take (i := 7) (v := ?_) rfl (by kernel_rfl) (by kernel_rfl) (by kernel_rfl) (fun _ _ _ h => h) (Or.inl ⟨by rfl, ?_⟩) (by assumption) ?_
  rotate_left
  · intro w hSw
    (try dsimp only at hSw)
    go_simp
    all_goals with_reducible rfl
  try simp only [Act.put, List.getElem_toArray, List.getElem_cons_succ, List.getElem_cons_zero, List.setIfInBounds_toArray, List.set_cons_zero, List.set_cons_succ]
  refine wpAnyH_take (i := 8) (v := ?_) rfl (by kernel_rfl) (by kernel_rfl) (by kernel_rfl) (fun _ _ _ h => h) (Or.inl ⟨by rfl, ?_⟩) (by assumption) ?_
  rotate_left
  · intro w hSw
    (try dsimp only at hSw)
    go_simp
    all_goals with_reducible rfl
  try simp only [Act.put, List.getElem_toArray, List.getElem_cons_succ, List.getElem_cons_zero, List.setIfInBounds_toArray, List.set_cons_zero, List.set_cons_succ]
  refine wpAnyH_take (i := 9) (v := ?_) rfl (by kernel_rfl) (by kernel_rfl) (by kernel_rfl) (fun _ _ _ h => h) (Or.inl ⟨by rfl, ?_⟩) (by assumption) ?_
  rotate_left
  · intro w hSw
    (try dsimp only at hSw)
    go_simp
    all_goals with_reducible rfl
  try simp only [Act.put, List.getElem_toArray, List.getElem_cons_succ, List.getElem_cons_zero, List.setIfInBounds_toArray, List.set_cons_zero, List.set_cons_succ]
  refine wpAnyH_take (i := 12) (v := ?_) rfl (by kernel_rfl) (by kernel_rfl) (by kernel_rfl) (fun _ _ _ h => h) (Or.inl ⟨by rfl, ?_⟩) (by assumption) ?_
  rotate_left
  · intro w hSw
    (try dsimp only at hSw)
    go_simp
    all_goals with_reducible rfl
  try simp only [Act.put, List.getElem_toArray, List.getElem_cons_succ, List.getElem_cons_zero, List.setIfInBounds_toArray, List.set_cons_zero, List.set_cons_succ]
  refine wpAnyH_take (i := 10) (v := .agg ([.int .i64 e.pol.kind, .int .i64 e.pol.target, .slice a1 e.pol.bands.length c1, .int .i64 e.pol.kp, .int .i64 e.pol.ki, .int .i64 e.pol.kd, .int .i64 e.pol.period, .slice a2 e.pol.slots.length c2]).toArray) rfl (by kernel_rfl) (by kernel_rfl) (by kernel_rfl) (fun _ _ _ h => h) (Or.inl ⟨by rfl, fun w hS => exec_load_mid 25 (.tmp 42) rfl _ 6 rfl [.int .i64 e.pol.kind, .int .i64 e.pol.target, .slice a1 e.pol.bands.length c1, .int .i64 e.pol.kp, .int .i64 e.pol.ki, .int .i64 e.pol.kd, .int .i64 e.pol.period, .slice a2 e.pol.slots.length c2] _ (pol_at hS.1) Try.underlying25 rfl (by kernel_rfl)⟩) (by assumption) ?_
  try simp only [Act.put, List.getElem_toArray, List.getElem_cons_succ, List.getElem_cons_zero, List.setIfInBounds_toArray, List.set_cons_zero, List.set_cons_succ]
  refine wpAnyH_take (i := 13) (v := .agg ([.int .i64 e.pol.kind, .int .i64 e.pol.target, .slice a1 e.pol.bands.length c1, .int .i64 e.pol.kp, .int .i64 e.pol.ki, .int .i64 e.pol.kd, .int .i64 e.pol.period, .slice a2 e.pol.slots.length c2]).toArray) rfl (by kernel_rfl) (by kernel_rfl) (by kernel_rfl) (fun _ _ _ h => h) (Or.inl ⟨by rfl, fun w hS => exec_load_mid 25 (.tmp 45) rfl _ 6 rfl [.int .i64 e.pol.kind, .int .i64 e.pol.target, .slice a1 e.pol.bands.length c1, .int .i64 e.pol.kp, .int .i64 e.pol.ki, .int .i64 e.pol.kd, .int .i64 e.pol.period, .slice a2 e.pol.slots.length c2] _ (pol_at hS.1) Try.underlying25 rfl (by kernel_rfl)⟩) (by assumption) ?_
  try simp only [Act.put, List.getElem_toArray, List.getElem_cons_succ, List.getElem_cons_zero, List.setIfInBounds_toArray, List.set_cons_zero, List.set_cons_succ]
  refine wpAnyH_ready (rs := [11]) (by kernel_rfl) (by simp) ?_
  refine AllReadyH.cons rfl (fun K hK => ?_) AllReadyH.nil
  rw [if_pos (by rfl)]
  go_simp
  go_at_call 11
  refine (pol_to HR.out.2.1 V9.out.mem.bands V9.out.mem.slots).mono ?_
  rintro r x10 ⟨rfl, hb⟩
  have V10 := Lib.hid (V9.out.on hb)
  have X10 := Lib.hid (X9.out.on hb)
  have Y10 := Lib.hid (Y9.out.on hb)
  have B10 := Lib.hid (bel2 B9.out hb)
  clear V9 X9 Y9 B9
  clear hb
  refine hK.out _ _ ?_ (fun hHeld => ?_)
  · exact ⟨V10.out.cells, X10.out.cells, Y10.out.cells⟩
  clear hK K
  try simp only [Act.put, List.getElem_toArray, List.getElem_cons_succ, List.getElem_cons_zero, List.setIfInBounds_toArray, List.set_cons_zero, List.set_cons_succ]
  refine wpAnyH_ready (rs := [14]) (by kernel_rfl) (by simp) ?_
  refine AllReadyH.cons rfl (fun K hK => ?_) AllReadyH.nil
  rw [if_pos (by rfl)]
  go_simp
  go_at_call 12
  refine (dpol_to HR.out.2.1 V10.out.mem.bands V10.out.mem.slots).mono ?_
  rintro r x11 ⟨rfl, hb⟩
  have V11 := Lib.hid (V10.out.on hb)
  have X11 := Lib.hid (X10.out.on hb)
  have Y11 := Lib.hid (Y10.out.on hb)
  have B11 := Lib.hid (bel2 B10.out hb)
  clear V10 X10 Y10 B10
  clear hb
  refine hK.out _ _ ?_ (fun hHeld => ?_)
  · exact ⟨V11.out.cells, X11.out.cells, Y11.out.cells⟩
  clear hK K
  try simp only [Act.put, List.getElem_toArray, List.getElem_cons_succ, List.getElem_cons_zero, List.setIfInBounds_toArray, List.set_cons_zero, List.set_cons_succ]
  refine wpAnyH_take (i := 15) (v := ?_) rfl (by kernel_rfl) (by kernel_rfl) (by kernel_rfl) (fun _ _ _ h => h) (Or.inl ⟨by rfl, ?_⟩) (by assumption) ?_
  rotate_left
  · intro w hSw
    (try dsimp only at hSw)
    go_simp
    all_goals with_reducible rfl
  try simp only [Act.put, List.getElem_toArray, List.getElem_cons_succ, List.getElem_cons_zero, List.setIfInBounds_toArray, List.set_cons_zero, List.set_cons_succ]
  refine wpAnyH_take (i := 16) (v := ?_) rfl (by kernel_rfl) (by kernel_rfl) (by kernel_rfl) (fun _ _ _ h => h) (Or.inl ⟨by rfl, ?_⟩) (by assumption) ?_
  rotate_left
  · intro w hSw
    (try dsimp only at hSw)
    go_simp
    all_goals with_reducible rfl
  try simp only [Act.put, List.getElem_toArray, List.getElem_cons_succ, List.getElem_cons_zero, List.setIfInBounds_toArray, List.set_cons_zero, List.set_cons_succ]
  refine wpAnyH_take (i := 17) (v := ?_) rfl (by kernel_rfl) (by kernel_rfl) (by kernel_rfl) (fun _ _ _ h => h) (Or.inl ⟨by rfl, ?_⟩) (by assumption) ?_
  rotate_left
  · intro w hSw
    (try dsimp only at hSw)
    go_simp
    all_goals with_reducible rfl
  try simp only [Act.put, List.getElem_toArray, List.getElem_cons_succ, List.getElem_cons_zero, List.setIfInBounds_toArray, List.set_cons_zero, List.set_cons_succ]
  refine wpAnyH_take (i := 18) (v := ?_) rfl (by kernel_rfl) (by kernel_rfl) (by kernel_rfl) (fun _ _ _ h => h) (Or.inl ⟨by rfl, ?_⟩) (by assumption) ?_
  rotate_left
  · intro w hSw
    (try dsimp only at hSw)
    go_simp
    all_goals with_reducible rfl
  try simp only [Act.put, List.getElem_toArray, List.getElem_cons_succ, List.getElem_cons_zero, List.setIfInBounds_toArray, List.set_cons_zero, List.set_cons_succ]
  refine wpAnyH_take (i := 21) (v := ?_) rfl (by kernel_rfl) (by kernel_rfl) (by kernel_rfl) (fun _ _ _ h => h) (Or.inl ⟨by rfl, ?_⟩) (by assumption) ?_
  rotate_left
  · intro w hSw
    (try dsimp only at hSw)
    go_simp
    all_goals with_reducible rfl
  try simp only [Act.put, List.getElem_toArray, List.getElem_cons_succ, List.getElem_cons_zero, List.setIfInBounds_toArray, List.set_cons_zero, List.set_cons_succ]
  refine wpAnyH_take (i := 19) (v := .agg ([.int .i64 e.conf.min, .int .i64 e.conf.max, .int .i64 e.conf.rate, .int .i64 e.conf.stable, .int .i64 e.conf.cap, .int .i64 e.conf.delay, .int .i64 e.conf.slack, .int .i64 e.conf.window, .int .i64 e.conf.margin, .int .i64 e.conf.ceil, .int .i64 e.conf.probe, .int .i64 e.conf.breach]).toArray) rfl (by kernel_rfl) (by kernel_rfl) (by kernel_rfl) (fun _ _ _ h => h) (Or.inl ⟨by rfl, fun w hS => exec_load_mid 27 (.tmp 51) rfl _ 14 rfl [.int .i64 e.conf.min, .int .i64 e.conf.max, .int .i64 e.conf.rate, .int .i64 e.conf.stable, .int .i64 e.conf.cap, .int .i64 e.conf.delay, .int .i64 e.conf.slack, .int .i64 e.conf.window, .int .i64 e.conf.margin, .int .i64 e.conf.ceil, .int .i64 e.conf.probe, .int .i64 e.conf.breach] _ (cnf_at hS.1) Try.underlying27 rfl (by kernel_rfl)⟩) (by assumption) ?_
  try simp only [Act.put, List.getElem_toArray, List.getElem_cons_succ, List.getElem_cons_zero, List.setIfInBounds_toArray, List.set_cons_zero, List.set_cons_succ]
  refine wpAnyH_take (i := 22) (v := .agg ([.int .i64 e.conf.min, .int .i64 e.conf.max, .int .i64 e.conf.rate, .int .i64 e.conf.stable, .int .i64 e.conf.cap, .int .i64 e.conf.delay, .int .i64 e.conf.slack, .int .i64 e.conf.window, .int .i64 e.conf.margin, .int .i64 e.conf.ceil, .int .i64 e.conf.probe, .int .i64 e.conf.breach]).toArray) rfl (by kernel_rfl) (by kernel_rfl) (by kernel_rfl) (fun _ _ _ h => h) (Or.inl ⟨by rfl, fun w hS => exec_load_mid 27 (.tmp 54) rfl _ 14 rfl [.int .i64 e.conf.min, .int .i64 e.conf.max, .int .i64 e.conf.rate, .int .i64 e.conf.stable, .int .i64 e.conf.cap, .int .i64 e.conf.delay, .int .i64 e.conf.slack, .int .i64 e.conf.window, .int .i64 e.conf.margin, .int .i64 e.conf.ceil, .int .i64 e.conf.probe, .int .i64 e.conf.breach] _ (cnf_at hS.1) Try.underlying27 rfl (by kernel_rfl)⟩) (by assumption) ?_
  try simp only [Act.put, List.getElem_toArray, List.getElem_cons_succ, List.getElem_cons_zero, List.setIfInBounds_toArray, List.set_cons_zero, List.set_cons_succ]
  refine wpAnyH_ready (rs := [20]) (by kernel_rfl) (by simp) ?_
  refine AllReadyH.cons rfl (fun K hK => ?_) AllReadyH.nil
  rw [if_pos (by rfl)]
  go_simp
  go_at_call 13
  refine (conf_to HR.out.2.2).mono ?_
  rintro r x12 ⟨rfl, hb⟩
  have V12 := Lib.hid (V11.out.on hb)
  have X12 := Lib.hid (X11.out.on hb)
  have Y12 := Lib.hid (Y11.out.on hb)
  have B12 := Lib.hid (bel2 B11.out hb)
  clear V11 X11 Y11 B11
  clear hb
  refine hK.out _ _ ?_ (fun hHeld => ?_)
  · exact ⟨V12.out.cells, X12.out.cells, Y12.out.cells⟩
  clear hK K
  try simp only [Act.put, List.getElem_toArray, List.getElem_cons_succ, List.getElem_cons_zero, List.setIfInBounds_toArray, List.set_cons_zero, List.set_cons_succ]
  refine wpAnyH_ready (rs := [23]) (by kernel_rfl) (by simp) ?_
  refine AllReadyH.cons rfl (fun K hK => ?_) AllReadyH.nil
  rw [if_pos (by rfl)]
  go_simp
  go_at_call 14
  refine (dconf_to HR.out.2.2).mono ?_
  rintro r x13 ⟨rfl, hb⟩
  have V13 := Lib.hid (V12.out.on hb)
  have X13 := Lib.hid (X12.out.on hb)
  have Y13 := Lib.hid (Y12.out.on hb)
  have B13 := Lib.hid (bel2 B12.out hb)
  clear V12 X12 Y12 B12
  clear hb
  refine hK.out _ _ ?_ (fun hHeld => ?_)
  · exact ⟨V13.out.cells, X13.out.cells, Y13.out.cells⟩
  clear hK K
  try simp only [Act.put, List.getElem_toArray, List.getElem_cons_succ, List.getElem_cons_zero, List.setIfInBounds_toArray, List.set_cons_zero, List.set_cons_succ]
  refine wpAnyH_take (i := 24) (v := ?_) rfl (by kernel_rfl) (by kernel_rfl) (by kernel_rfl) (fun _ _ _ h => h) (Or.inl ⟨by rfl, ?_⟩) (by assumption) ?_
  rotate_left
  · intro w hSw
    (try dsimp only at hSw)
    go_simp
    all_goals with_reducible rfl
  try simp only [Act.put, List.getElem_toArray, List.getElem_cons_succ, List.getElem_cons_zero, List.setIfInBounds_toArray, List.set_cons_zero, List.set_cons_succ]
  refine wpAnyH_take (i := 25) (v := ?_) rfl (by kernel_rfl) (by kernel_rfl) (by kernel_rfl) (fun _ _ _ h => h) (Or.inl ⟨by rfl, ?_⟩) (by assumption) ?_
  rotate_left
  · intro w hSw
    (try dsimp only at hSw)
    go_simp
    all_goals with_reducible rfl
  try simp only [Act.put, List.getElem_toArray, List.getElem_cons_succ, List.getElem_cons_zero, List.setIfInBounds_toArray, List.set_cons_zero, List.set_cons_succ]
  refine wpAnyH_take (i := 26) (v := ?_) rfl (by kernel_rfl) (by kernel_rfl) (by kernel_rfl) (fun _ _ _ h => h) (Or.inl ⟨by rfl, ?_⟩) (by assumption) ?_
  rotate_left
  · intro w hSw
    (try dsimp only at hSw)
    go_simp
    all_goals with_reducible rfl
  try simp only [Act.put, List.getElem_toArray, List.getElem_cons_succ, List.getElem_cons_zero, List.setIfInBounds_toArray, List.set_cons_zero, List.set_cons_succ]
  refine wpAnyH_take (i := 27) (v := .agg (evC e a1 a2 a3 c1 c2 c3)) rfl (by kernel_rfl) (by kernel_rfl) (by kernel_rfl) (fun _ _ _ h => h) (Or.inl ⟨by rfl, fun w hS => exec_load_row 30 (.tmp 3) rfl _ rfl 30 (evC e a1 a2 a3 c1 c2 c3) (0, 0) _ hS.1 Try.underlying30 rfl (by kernel_rfl)⟩) (by assumption) ?_
  try simp only [Act.put, List.getElem_toArray, List.getElem_cons_succ, List.getElem_cons_zero, List.setIfInBounds_toArray, List.set_cons_zero, List.set_cons_succ]
  refine wpAnyH_take (i := 30) (v := .agg (evC e a1 a2 a3 c1 c2 c3)) rfl (by kernel_rfl) (by kernel_rfl) (by kernel_rfl) (fun _ _ _ h => h) (Or.inl ⟨by rfl, fun w hS => exec_load_row 30 (.tmp 3) rfl _ rfl 30 (evC e a1 a2 a3 c1 c2 c3) (0, 0) _ hS.1 Try.underlying30 rfl (by kernel_rfl)⟩) (by assumption) ?_
  try simp only [Act.put, List.getElem_toArray, List.getElem_cons_succ, List.getElem_cons_zero, List.setIfInBounds_toArray, List.set_cons_zero, List.set_cons_succ]
  refine wpAnyH_ready (rs := [28]) (by kernel_rfl) (by simp) ?_
  refine AllReadyH.cons rfl (fun K hK => ?_) AllReadyH.nil
  rw [if_pos (by rfl)]
  go_simp
  go_at_call 15
  refine (put_any e V13.out.mem (by have := HG.out; omega) (by have := HG.out; omega) (by have := HG.out; omega)).mono ?_
  rintro r xp ⟨pa, pc, rfl, hsl, hb⟩
  have V14 := Lib.hid (V13.out.on hb)
  have X14 := Lib.hid (X13.out.on hb)
  have Y14 := Lib.hid (Y13.out.on hb)
  have B14 := Lib.hid (bel2 B13.out hb)
  clear V13 X13 Y13 B13
  have SA := Lib.hid hsl
  clear hb hsl
  refine hK.out _ _ ?_ (fun hHeld => ?_)
  · exact ⟨V14.out.cells, X14.out.cells, Y14.out.cells⟩
  clear hK K
  try simp only [Act.put, List.getElem_toArray, List.getElem_cons_succ, List.getElem_cons_zero, List.setIfInBounds_toArray, List.set_cons_zero, List.set_cons_succ]
  refine held_to (S' := fun x => (x.heap[w.heap.size]? = some (.cells (evC e a1 a2 a3 c1 c2 c3) 30 (0, 0)) ∧ x.heap[q1]? = some (.cells (evC y g1 g2 g3 h1 h2 h3) 30 (0, 0)) ∧ x.heap[q2]? = some (.cells (evC y d1 d2 d3 f1 f2 f3) 30 (0, 0))) ∧ (convert 28 9 (.slice pa (putR e).length pc)).run Try.prog x = .ok (.string (strOf (putR e))) x) (fun _ h => h.1) ⟨⟨V14.out.cells, X14.out.cells, Y14.out.cells⟩, run_strv SA.out⟩ (fun hHeld => ?_)
  refine wpAnyH_take (i := 29) (v := ?_) rfl (by kernel_rfl) (by kernel_rfl) (by kernel_rfl) (fun _ _ _ h => h) (Or.inl ⟨by rfl, ?_⟩) (by assumption) ?_
  rotate_left
  · intro w hSw
    (try dsimp only at hSw)
    go_simp
    all_goals with_reducible rfl
  try simp only [Act.put, List.getElem_toArray, List.getElem_cons_succ, List.getElem_cons_zero, List.setIfInBounds_toArray, List.set_cons_zero, List.set_cons_succ]
  refine wpAnyH_ready (rs := [31]) (by kernel_rfl) (by simp) ?_
  refine AllReadyH.cons rfl (fun K hK => ?_) AllReadyH.nil
  rw [if_pos (by rfl)]
  go_simp
  go_at_call 16
  refine (dput_any e V14.out.mem (by have := HG.out; omega) (by have := HG.out; omega) (by have := HG.out; omega)).mono ?_
  rintro r xq ⟨pb, pd, rfl, hsl, hb⟩
  have SA2 := Lib.hid ((SA.out.below hb (Nat.le_refl _)).more hb.size)
  have V15 := Lib.hid (V14.out.on hb)
  have X15 := Lib.hid (X14.out.on hb)
  have Y15 := Lib.hid (Y14.out.on hb)
  have B15 := Lib.hid (bel2 B14.out hb)
  clear V14 X14 Y14 B14
  clear hb SA
  have qA := run_strv hsl
  refine hK.out _ _ ?_ (fun hHeld => ?_)
  · exact ⟨⟨V15.out.cells, X15.out.cells, Y15.out.cells⟩, run_strv SA2.out⟩
  clear hK K
  try simp only [Act.put, List.getElem_toArray, List.getElem_cons_succ, List.getElem_cons_zero, List.setIfInBounds_toArray, List.set_cons_zero, List.set_cons_succ]
  refine wpAnyH_ready (rs := [32]) (by kernel_rfl) (by simp) ?_
  refine AllReadyH.cons rfl (fun K hK => ?_) AllReadyH.nil
  rw [if_pos (by rfl)]
  go_simp
  refine hK.out _ _ ?_ (fun hHeld => ?_)
  · exact ⟨⟨V15.out.cells, X15.out.cells, Y15.out.cells⟩, run_strv SA2.out⟩
  clear hK K
  try simp only [Act.put, List.getElem_toArray, List.getElem_cons_succ, List.getElem_cons_zero, List.setIfInBounds_toArray, List.set_cons_zero, List.set_cons_succ]
  clear qA hsl
  refine wpAnyH_take (i := 33) (v := ?_) rfl (by kernel_rfl) (by kernel_rfl) (by kernel_rfl) (fun _ _ _ h => h) (Or.inl ⟨by rfl, ?_⟩) (by assumption) ?_
  rotate_left
  · intro w hSw
    (try dsimp only at hSw)
    go_simp
    all_goals with_reducible rfl
  try simp only [Act.put, List.getElem_toArray, List.getElem_cons_succ, List.getElem_cons_zero, List.setIfInBounds_toArray, List.set_cons_zero, List.set_cons_succ]
  refine wpAnyH_take (i := 34) (v := ?_) rfl (by kernel_rfl) (by kernel_rfl) (by kernel_rfl) (fun _ _ _ h => h) (Or.inl ⟨by rfl, ?_⟩) (by assumption) ?_
  rotate_left
  · intro w hSw
    (try dsimp only at hSw)
    go_simp
    all_goals with_reducible rfl
  try simp only [Act.put, List.getElem_toArray, List.getElem_cons_succ, List.getElem_cons_zero, List.setIfInBounds_toArray, List.set_cons_zero, List.set_cons_succ]
  refine wpAnyH_take (i := 35) (v := ?_) rfl (by kernel_rfl) (by kernel_rfl) (by kernel_rfl) (fun _ _ _ h => h) (Or.inl ⟨by rfl, ?_⟩) (by assumption) ?_
  rotate_left
  · intro w hSw
    (try dsimp only at hSw)
    go_simp
    all_goals with_reducible rfl
  try simp only [Act.put, List.getElem_toArray, List.getElem_cons_succ, List.getElem_cons_zero, List.setIfInBounds_toArray, List.set_cons_zero, List.set_cons_succ]
  refine wpAnyH_take (i := 36) (v := .agg (evC y g1 g2 g3 h1 h2 h3)) rfl (by kernel_rfl) (by kernel_rfl) (by kernel_rfl) (fun _ _ _ h => h) (Or.inl ⟨by rfl, fun w hS => exec_load_row 30 (.tmp 8) rfl q1 rfl 30 (evC y g1 g2 g3 h1 h2 h3) (0, 0) _ hS.1.2.1 Try.underlying30 rfl (by kernel_rfl)⟩) (by assumption) ?_
  try simp only [Act.put, List.getElem_toArray, List.getElem_cons_succ, List.getElem_cons_zero, List.setIfInBounds_toArray, List.set_cons_zero, List.set_cons_succ]
  refine wpAnyH_take (i := 37) (v := .agg (evC y d1 d2 d3 f1 f2 f3)) rfl (by kernel_rfl) (by kernel_rfl) (by kernel_rfl) (fun _ _ _ h => h) (Or.inl ⟨by rfl, fun w hS => exec_load_row 30 (.tmp 10) rfl q2 rfl 30 (evC y d1 d2 d3 f1 f2 f3) (0, 0) _ hS.1.2.2 Try.underlying30 rfl (by kernel_rfl)⟩) (by assumption) ?_
  try simp only [Act.put, List.getElem_toArray, List.getElem_cons_succ, List.getElem_cons_zero, List.setIfInBounds_toArray, List.set_cons_zero, List.set_cons_succ]
  refine wpAnyH_ready (rs := [38]) (by kernel_rfl) (by simp) ?_
  refine AllReadyH.cons rfl (fun K hK => ?_) AllReadyH.nil
  rw [if_pos (by rfl)]
  go_simp
  go_at_call 17
  refine (same_to (evSame_iff.2 rfl) X15.out.mem Y15.out.mem).mono ?_
  rintro r x16 ⟨rfl, hb⟩
  have V16 := Lib.hid (V15.out.on hb)
  have X16 := Lib.hid (X15.out.on hb)
  have Y16 := Lib.hid (Y15.out.on hb)
  have B16 := Lib.hid (bel2 B15.out hb)
  clear V15 X15 Y15 B15
  have SA3 := Lib.hid ((SA2.out.below hb (Nat.le_refl _)).more hb.size)
  clear hb
  refine hK.out _ _ ?_ (fun hHeld => ?_)
  · exact ⟨⟨V16.out.cells, X16.out.cells, Y16.out.cells⟩, run_strv SA3.out⟩
  clear hK K
  try simp only [Act.put, List.getElem_toArray, List.getElem_cons_succ, List.getElem_cons_zero, List.setIfInBounds_toArray, List.set_cons_zero, List.set_cons_succ]
  refine wpAnyH_take (i := 39) (v := ?_) rfl (by kernel_rfl) (by kernel_rfl) (by kernel_rfl) (fun _ _ _ h => h) (Or.inl ⟨by rfl, ?_⟩) (by assumption) ?_
  rotate_left
  · intro w hSw
    (try dsimp only at hSw)
    go_simp
    all_goals with_reducible rfl
  try simp only [Act.put, List.getElem_toArray, List.getElem_cons_succ, List.getElem_cons_zero, List.setIfInBounds_toArray, List.set_cons_zero, List.set_cons_succ]
  refine wpAnyH_take (i := 40) (v := ?_) rfl (by kernel_rfl) (by kernel_rfl) (by kernel_rfl) (fun _ _ _ h => h) (Or.inl ⟨by rfl, ?_⟩) (by assumption) ?_
  rotate_left
  · intro w hSw
    (try dsimp only at hSw)
    go_simp
    all_goals with_reducible rfl
  try simp only [Act.put, List.getElem_toArray, List.getElem_cons_succ, List.getElem_cons_zero, List.setIfInBounds_toArray, List.set_cons_zero, List.set_cons_succ]
  refine wpAnyH_take (i := 41) (v := ?_) rfl (by kernel_rfl) (by kernel_rfl) (by kernel_rfl) (fun _ _ _ h => h) (Or.inl ⟨by rfl, ?_⟩) (by assumption) ?_
  rotate_left
  · intro w hSw
    (try dsimp only at hSw)
    go_simp
    all_goals with_reducible rfl
  try simp only [Act.put, List.getElem_toArray, List.getElem_cons_succ, List.getElem_cons_zero, List.setIfInBounds_toArray, List.set_cons_zero, List.set_cons_succ]
  refine wpAnyH_take (i := 42) (v := ?_) rfl (by kernel_rfl) (by kernel_rfl) (by kernel_rfl) (fun _ _ _ h => h) (Or.inl ⟨by rfl, ?_⟩) (by assumption) ?_
  rotate_left
  · intro w hSw
    (try dsimp only at hSw)
    go_simp
    all_goals with_reducible rfl
  try simp only [Act.put, List.getElem_toArray, List.getElem_cons_succ, List.getElem_cons_zero, List.setIfInBounds_toArray, List.set_cons_zero, List.set_cons_succ]
  refine wpAnyH_take (i := 43) (v := ?_) rfl (by kernel_rfl) (by kernel_rfl) (by kernel_rfl) (fun _ _ _ h => h) (Or.inl ⟨by rfl, ?_⟩) (by assumption) ?_
  rotate_left
  · intro w hSw
    (try dsimp only at hSw)
    go_simp
    all_goals with_reducible rfl
  try simp only [Act.put, List.getElem_toArray, List.getElem_cons_succ, List.getElem_cons_zero, List.setIfInBounds_toArray, List.set_cons_zero, List.set_cons_succ]
  refine wpAnyH_take (i := 44) (v := ?_) rfl (by kernel_rfl) (by kernel_rfl) (by kernel_rfl) (fun _ _ _ h => h) (Or.inl ⟨by rfl, ?_⟩) (by assumption) ?_
  rotate_left
  · intro w hSw
    (try dsimp only at hSw)
    go_simp
    all_goals with_reducible rfl
  try simp only [Act.put, List.getElem_toArray, List.getElem_cons_succ, List.getElem_cons_zero, List.setIfInBounds_toArray, List.set_cons_zero, List.set_cons_succ]
  refine wpAnyH_take (i := 45) (v := ?_) rfl (by kernel_rfl) (by kernel_rfl) (by kernel_rfl) (fun _ _ _ h => h) (Or.inl ⟨by rfl, ?_⟩) (by assumption) ?_
  rotate_left
  · intro w hSw
    (try dsimp only at hSw)
    go_simp
    all_goals with_reducible rfl
  try simp only [Act.put, List.getElem_toArray, List.getElem_cons_succ, List.getElem_cons_zero, List.setIfInBounds_toArray, List.set_cons_zero, List.set_cons_succ]
  refine wpAnyH_done (by kernel_rfl) ?_ _
  go_wp2
  go_ret
  exact ⟨rfl, B16.out⟩
end
end Go.Proofs.Ytnpakjdgcmbcnaa
