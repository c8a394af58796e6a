/- The writer is handed an event. -/
import Derived.Test.YtnpakjdgcmbcnaaEvZ
namespace Go.Proofs.Ytnpakjdgcmbcnaa
open Go.RowKit
open Wir Evn
attribute [local go_sem] na_wints na_wlongs na_wcount na_wtext mt_wints mt_wlongs mt_wcount mt_wtext

theorem EvM.but {O : Nat → Prop} {w w' : World} {a1 a2 a3 : Option Addr} {c1 c2 c3 : Nat} {e : Ev} (h : EvM w a1 a2 a3 c1 c2 c3 e) (hb : But O w w') (hf : EvFar O a1 a2 a3 e) : EvM w' a1 a2 a3 c1 c2 c3 e := by
  refine ⟨⟨⟨h.bands.1.le, h.bands.1.max, fun hp => ?_⟩, h.bands.2⟩, ⟨⟨h.slots.1.le, h.slots.1.max, fun hp => ?_⟩, h.slots.2⟩, h.body.same_ hb.size (fun hp b o e => hb.block b ?_ (hf.body hp b o e)), h.v64⟩
  · obtain ⟨b, o, e, hlt, hc⟩ := h.bands.1.at_ hp
    exact ⟨b, o, e, Nat.lt_of_lt_of_le hlt hb.size, fun j hj => (World.cell?_of_block (w := w) (a := ⟨b, o + j, none⟩) (hb.block b hlt (hf.bands hp b o e))).trans (hc j hj)⟩
  · obtain ⟨b, o, e, hlt, hc⟩ := h.slots.1.at_ hp
    exact ⟨b, o, e, Nat.lt_of_lt_of_le hlt hb.size, fun j hj => (World.cell?_of_block (w := w) (a := ⟨b, o + j, none⟩) (hb.block b hlt (hf.slots hp b o e))).trans (hc j hj)⟩
  · obtain ⟨b', o', e', hlt, _⟩ := h.body.at_ hp
    rw [e] at e'; injection e' with e'; injection e' with e'; omega
/-- More is what O is, but nothing that was there. -/
theorem EvFar.more {O O' : Nat → Prop} {w : World} {a1 a2 a3 : Option Addr} {c1 c2 c3 : Nat} {e : Ev} (h : EvFar O a1 a2 a3 e) (hO : ∀ k, O' k → O k ∨ w.heap.size ≤ k) (hm : EvM w a1 a2 a3 c1 c2 c3 e) : EvFar O' a1 a2 a3 e := by
  refine ⟨fun hp k o e ho => ?_, fun hp k o e ho => ?_, fun hp k o e ho => ?_⟩
  · rcases hO k ho with h1 | h1
    · exact h.bands hp k o e h1
    · obtain ⟨b', o', e', hlt, _⟩ := hm.bands.1.at_ hp
      rw [e] at e'; injection e' with e'; injection e' with e'; omega
  · rcases hO k ho with h1 | h1
    · exact h.slots hp k o e h1
    · obtain ⟨b', o', e', hlt, _⟩ := hm.slots.1.at_ hp
      rw [e] at e'; injection e' with e'; injection e' with e'; omega
  · rcases hO k ho with h1 | h1
    · exact h.body hp k o e h1
    · obtain ⟨b', o', e', hlt, _⟩ := hm.body.at_ hp
      rw [e] at e'; injection e' with e'; injection e' with e'; omega
set_option linter.unusedSimpArgs false in
set_option maxRecDepth 100000 in
set_option maxHeartbeats 6400000 in
theorem wfields1 {T U : TypeId} {w : World} {p b : Nat} {bs : List Nat} {O : Nat → Prop} {e : Ev} {a1 a2 a3 : Option Addr} {c1 c2 c3 : Nat} (h : Wtr T w p bs O) (hc : w.heap[b]? = some (.cells (evC e a1 a2 a3 c1 c2 c3) U (0, 0))) (hb : ¬ O b) (hm : EvM w a1 a2 a3 c1 c2 c3 e) (hfar : EvFar O a1 a2 a3 e)
    (hn1 : e.pol.bands.length ≤ 100) (hn2 : e.pol.slots.length ≤ 100) (hn3 : e.body.length ≤ 100000) (hlen : bs.length ≤ 900) (hk : e.kind = 1) :
    Calls Try.prog 21 #[.iface 73 (.pointer (some ⟨p, 0, none⟩)), .pointer (some ⟨b, 0, none⟩)] w fun r w' => r = .returned (.tuple #[]) ∧ WMv T w p (bs ++ code e) O w' := by
  have k0 : w.cell? ⟨b, 0, none⟩ = some (.int .i64 e.kind) := evC_cell hc 0 _ rfl
  have HD : Hid (code e = nb [e.util, e.demand]) := by show _ = _; unfold code; simp [hk]
  have H := Lib.hid (WMv.start h)
  have HR := Lib.hid hm.v64.nums
  have HC : Hid (∀ j v, (evC e a1 a2 a3 c1 c2 c3)[j]? = some v → w.cell? ⟨b, j, none⟩ = some v) := evC_cell hc
  have HF : Hid (¬ O b ∧ (∀ k, O k → k < w.heap.size) ∧ b < w.heap.size) := ⟨hb, h.lt, lt_of_heap hc⟩
  rw [hk] at k0
  clear h hc hb hm hfar hk
  go_enter Try.func21, Try.ntmps21
  go_wp2_with fail
  refine wp_region_held_drew (S := fun _ => True) (by kernel_rfl) trivial (fun hHeld => ?_)
  refine wpAnyH_take (i := 0) (v := ?_) rfl (by kernel_rfl) (by kernel_rfl) (by kernel_rfl) (fun _ _ _ h => h) (Or.inl ⟨by rfl, ?_⟩) (by assumption) ?_
  rotate_left
  · intro w hSw
    (try dsimp only at hSw)
    go_simp
    all_goals with_reducible rfl
  try simp only [Act.put, List.getElem_toArray, List.getElem_cons_succ, List.getElem_cons_zero, List.setIfInBounds_toArray, List.set_cons_zero, List.set_cons_succ]
  refine wpAnyH_take (i := 1) (v := ?_) rfl (by kernel_rfl) (by kernel_rfl) (by kernel_rfl) (fun _ _ _ h => h) (Or.inl ⟨by rfl, ?_⟩) (by assumption) ?_
  rotate_left
  · intro w hSw
    (try dsimp only at hSw)
    go_simp
    all_goals with_reducible rfl
  try simp only [Act.put, List.getElem_toArray, List.getElem_cons_succ, List.getElem_cons_zero, List.setIfInBounds_toArray, List.set_cons_zero, List.set_cons_succ]
  refine wpAnyH_take (i := 2) (v := ?_) rfl (by kernel_rfl) (by kernel_rfl) (by kernel_rfl) (fun _ _ _ h => h) (Or.inl ⟨by rfl, ?_⟩) (by assumption) ?_
  rotate_left
  · intro w hSw
    (try dsimp only at hSw)
    go_simp
    all_goals with_reducible rfl
  try simp only [Act.put, List.getElem_toArray, List.getElem_cons_succ, List.getElem_cons_zero, List.setIfInBounds_toArray, List.set_cons_zero, List.set_cons_succ]
  refine wpAnyH_take (i := 3) (v := ?_) rfl (by kernel_rfl) (by kernel_rfl) (by kernel_rfl) (fun _ _ _ h => h) (Or.inl ⟨by rfl, ?_⟩) (by assumption) ?_
  rotate_left
  · intro w hSw
    (try dsimp only at hSw)
    go_simp
    all_goals with_reducible rfl
  try simp only [Act.put, List.getElem_toArray, List.getElem_cons_succ, List.getElem_cons_zero, List.setIfInBounds_toArray, List.set_cons_zero, List.set_cons_succ]
  refine wpAnyH_take (i := 4) (v := ?_) rfl (by kernel_rfl) (by kernel_rfl) (by kernel_rfl) (fun _ _ _ h => h) (Or.inl ⟨by rfl, ?_⟩) (by assumption) ?_
  rotate_left
  · intro w hSw
    (try dsimp only at hSw)
    go_simp
    all_goals with_reducible rfl
  try simp only [Act.put, List.getElem_toArray, List.getElem_cons_succ, List.getElem_cons_zero, List.setIfInBounds_toArray, List.set_cons_zero, List.set_cons_succ]
  refine wpAnyH_take (i := 5) (v := ?_) rfl (by kernel_rfl) (by kernel_rfl) (by kernel_rfl) (fun _ _ _ h => h) (Or.inl ⟨by rfl, ?_⟩) (by assumption) ?_
  rotate_left
  · intro w hSw
    (try dsimp only at hSw)
    go_simp
    all_goals with_reducible rfl
  try simp only [Act.put, List.getElem_toArray, List.getElem_cons_succ, List.getElem_cons_zero, List.setIfInBounds_toArray, List.set_cons_zero, List.set_cons_succ]
  refine wpAnyH_take (i := 6) (v := ?_) rfl (by kernel_rfl) (by kernel_rfl) (by kernel_rfl) (fun _ _ _ h => h) (Or.inl ⟨by rfl, ?_⟩) (by assumption) ?_
  rotate_left
  · intro w hSw
    (try dsimp only at hSw)
    go_simp
    all_goals with_reducible rfl
  try simp only [Act.put, List.getElem_toArray, List.getElem_cons_succ, List.getElem_cons_zero, List.setIfInBounds_toArray, List.set_cons_zero, List.set_cons_succ]
  refine wpAnyH_take (i := 8) (v := ?_) rfl (by kernel_rfl) (by kernel_rfl) (by kernel_rfl) (fun _ _ _ h => h) (Or.inl ⟨by rfl, ?_⟩) (by assumption) ?_
  rotate_left
  · intro w hSw
    (try dsimp only at hSw)
    go_simp
    all_goals with_reducible rfl
  try simp only [Act.put, List.getElem_toArray, List.getElem_cons_succ, List.getElem_cons_zero, List.setIfInBounds_toArray, List.set_cons_zero, List.set_cons_succ]
  refine wpAnyH_take (i := 9) (v := ?_) rfl (by kernel_rfl) (by kernel_rfl) (by kernel_rfl) (fun _ _ _ h => h) (Or.inl ⟨by rfl, ?_⟩) (by assumption) ?_
  rotate_left
  · intro w hSw
    (try dsimp only at hSw)
    go_simp
    all_goals with_reducible rfl
  try simp only [Act.put, List.getElem_toArray, List.getElem_cons_succ, List.getElem_cons_zero, List.setIfInBounds_toArray, List.set_cons_zero, List.set_cons_succ]
  refine wpAnyH_take (i := 10) (v := ?_) rfl (by kernel_rfl) (by kernel_rfl) (by kernel_rfl) (fun _ _ _ h => h) (Or.inl ⟨by rfl, ?_⟩) (by assumption) ?_
  rotate_left
  · intro w hSw
    (try dsimp only at hSw)
    go_simp
    all_goals with_reducible rfl
  try simp only [Act.put, List.getElem_toArray, List.getElem_cons_succ, List.getElem_cons_zero, List.setIfInBounds_toArray, List.set_cons_zero, List.set_cons_succ]
  refine wpAnyH_ready (rs := [7]) (by kernel_rfl) (by simp) ?_
  refine AllReadyH.cons rfl (fun K hK => ?_) AllReadyH.nil
  rw [if_pos (by rfl)]
  go_simp
  refine hK.out _ _ ?_ (fun hHeld => ?_)
  · exact trivial
  clear hK K
  try simp only [Act.put, List.getElem_toArray, List.getElem_cons_succ, List.getElem_cons_zero, List.setIfInBounds_toArray, List.set_cons_zero, List.set_cons_succ]
  refine wpAnyH_ready (rs := [11]) (by kernel_rfl) (by simp) ?_
  refine AllReadyH.cons rfl (fun K hK => ?_) AllReadyH.nil
  rw [if_pos (by rfl)]
  go_simp
  go_at_call 101
  refine (wlongs_new H.out (js := [1, 2]) (vs := [e.util, e.demand]) (Reads.cons (HC.out 1 _ rfl) (Reads.cons (HC.out 2 _ rfl) Reads.nil)) HF.out.1 HF.out.2.1 HF.out.2.2 (all_sub HR.out (by simp)) rfl rfl (by simp) (by (try simp only [List.length_append]); omega)).mono ?_
  rintro e w1 ⟨rfl, h1⟩
  clear H
  have H := Lib.hid h1
  clear h1
  refine hK.out _ _ ?_ (fun hHeld => ?_)
  · exact trivial
  clear hK K
  try simp only [Act.put, List.getElem_toArray, List.getElem_cons_succ, List.getElem_cons_zero, List.setIfInBounds_toArray, List.set_cons_zero, List.set_cons_succ]
  refine wpAnyH_done (by kernel_rfl) ?_ _
  clear hHeld
  go_wp2
  go_end0
  exact ⟨rfl, by rw [HD.out]; exact H.out⟩
set_option linter.unusedSimpArgs false in
set_option maxRecDepth 100000 in
set_option maxHeartbeats 6400000 in
theorem wfields2 {T U : TypeId} {w : World} {p b : Nat} {bs : List Nat} {O : Nat → Prop} {e : Ev} {a1 a2 a3 : Option Addr} {c1 c2 c3 : Nat} (h : Wtr T w p bs O) (hc : w.heap[b]? = some (.cells (evC e a1 a2 a3 c1 c2 c3) U (0, 0))) (hb : ¬ O b) (hm : EvM w a1 a2 a3 c1 c2 c3 e) (hfar : EvFar O a1 a2 a3 e)
    (hn1 : e.pol.bands.length ≤ 100) (hn2 : e.pol.slots.length ≤ 100) (hn3 : e.body.length ≤ 100000) (hlen : bs.length ≤ 900) (hk : e.kind = 2) :
    Calls Try.prog 21 #[.iface 73 (.pointer (some ⟨p, 0, none⟩)), .pointer (some ⟨b, 0, none⟩)] w fun r w' => r = .returned (.tuple #[]) ∧ WMv T w p (bs ++ code e) O w' := by
  have k0 : w.cell? ⟨b, 0, none⟩ = some (.int .i64 e.kind) := evC_cell hc 0 _ rfl
  have HD : Hid (code e = nb [e.t]) := by show _ = _; unfold code; simp [hk]
  have H := Lib.hid (WMv.start h)
  have HR := Lib.hid hm.v64.nums
  have HC : Hid (∀ j v, (evC e a1 a2 a3 c1 c2 c3)[j]? = some v → w.cell? ⟨b, j, none⟩ = some v) := evC_cell hc
  have HF : Hid (¬ O b ∧ (∀ k, O k → k < w.heap.size) ∧ b < w.heap.size) := ⟨hb, h.lt, lt_of_heap hc⟩
  rw [hk] at k0
  clear h hc hb hm hfar hk
  go_enter Try.func21, Try.ntmps21
  go_wp2_with fail
  refine wp_region_held_drew (S := fun _ => True) (by kernel_rfl) trivial (fun hHeld => ?_)
  refine wpAnyH_take (i := 0) (v := ?_) rfl (by kernel_rfl) (by kernel_rfl) (by kernel_rfl) (fun _ _ _ h => h) (Or.inl ⟨by rfl, ?_⟩) (by assumption) ?_
  rotate_left
  · intro w hSw
    (try dsimp only at hSw)
    go_simp
    all_goals with_reducible rfl
  try simp only [Act.put, List.getElem_toArray, List.getElem_cons_succ, List.getElem_cons_zero, List.setIfInBounds_toArray, List.set_cons_zero, List.set_cons_succ]
  refine wpAnyH_take (i := 1) (v := ?_) rfl (by kernel_rfl) (by kernel_rfl) (by kernel_rfl) (fun _ _ _ h => h) (Or.inl ⟨by rfl, ?_⟩) (by assumption) ?_
  rotate_left
  · intro w hSw
    (try dsimp only at hSw)
    go_simp
    all_goals with_reducible rfl
  try simp only [Act.put, List.getElem_toArray, List.getElem_cons_succ, List.getElem_cons_zero, List.setIfInBounds_toArray, List.set_cons_zero, List.set_cons_succ]
  refine wpAnyH_take (i := 2) (v := ?_) rfl (by kernel_rfl) (by kernel_rfl) (by kernel_rfl) (fun _ _ _ h => h) (Or.inl ⟨by rfl, ?_⟩) (by assumption) ?_
  rotate_left
  · intro w hSw
    (try dsimp only at hSw)
    go_simp
    all_goals with_reducible rfl
  try simp only [Act.put, List.getElem_toArray, List.getElem_cons_succ, List.getElem_cons_zero, List.setIfInBounds_toArray, List.set_cons_zero, List.set_cons_succ]
  refine wpAnyH_take (i := 3) (v := ?_) rfl (by kernel_rfl) (by kernel_rfl) (by kernel_rfl) (fun _ _ _ h => h) (Or.inl ⟨by rfl, ?_⟩) (by assumption) ?_
  rotate_left
  · intro w hSw
    (try dsimp only at hSw)
    go_simp
    all_goals with_reducible rfl
  try simp only [Act.put, List.getElem_toArray, List.getElem_cons_succ, List.getElem_cons_zero, List.setIfInBounds_toArray, List.set_cons_zero, List.set_cons_succ]
  refine wpAnyH_take (i := 5) (v := ?_) rfl (by kernel_rfl) (by kernel_rfl) (by kernel_rfl) (fun _ _ _ h => h) (Or.inl ⟨by rfl, ?_⟩) (by assumption) ?_
  rotate_left
  · intro w hSw
    (try dsimp only at hSw)
    go_simp
    all_goals with_reducible rfl
  try simp only [Act.put, List.getElem_toArray, List.getElem_cons_succ, List.getElem_cons_zero, List.setIfInBounds_toArray, List.set_cons_zero, List.set_cons_succ]
  refine wpAnyH_take (i := 6) (v := ?_) rfl (by kernel_rfl) (by kernel_rfl) (by kernel_rfl) (fun _ _ _ h => h) (Or.inl ⟨by rfl, ?_⟩) (by assumption) ?_
  rotate_left
  · intro w hSw
    (try dsimp only at hSw)
    go_simp
    all_goals with_reducible rfl
  try simp only [Act.put, List.getElem_toArray, List.getElem_cons_succ, List.getElem_cons_zero, List.setIfInBounds_toArray, List.set_cons_zero, List.set_cons_succ]
  refine wpAnyH_take (i := 7) (v := ?_) rfl (by kernel_rfl) (by kernel_rfl) (by kernel_rfl) (fun _ _ _ h => h) (Or.inl ⟨by rfl, ?_⟩) (by assumption) ?_
  rotate_left
  · intro w hSw
    (try dsimp only at hSw)
    go_simp
    all_goals with_reducible rfl
  try simp only [Act.put, List.getElem_toArray, List.getElem_cons_succ, List.getElem_cons_zero, List.setIfInBounds_toArray, List.set_cons_zero, List.set_cons_succ]
  refine wpAnyH_ready (rs := [4]) (by kernel_rfl) (by simp) ?_
  refine AllReadyH.cons rfl (fun K hK => ?_) AllReadyH.nil
  rw [if_pos (by rfl)]
  go_simp
  refine hK.out _ _ ?_ (fun hHeld => ?_)
  · exact trivial
  clear hK K
  try simp only [Act.put, List.getElem_toArray, List.getElem_cons_succ, List.getElem_cons_zero, List.setIfInBounds_toArray, List.set_cons_zero, List.set_cons_succ]
  refine wpAnyH_ready (rs := [8]) (by kernel_rfl) (by simp) ?_
  refine AllReadyH.cons rfl (fun K hK => ?_) AllReadyH.nil
  rw [if_pos (by rfl)]
  go_simp
  go_at_call 101
  refine (wlongs_new H.out (js := [3]) (vs := [e.t]) (Reads.cons (HC.out 3 _ rfl) Reads.nil) HF.out.1 HF.out.2.1 HF.out.2.2 (all_sub HR.out (by simp)) rfl rfl (by simp) (by (try simp only [List.length_append]); omega)).mono ?_
  rintro e w1 ⟨rfl, h1⟩
  clear H
  have H := Lib.hid h1
  clear h1
  refine hK.out _ _ ?_ (fun hHeld => ?_)
  · exact trivial
  clear hK K
  try simp only [Act.put, List.getElem_toArray, List.getElem_cons_succ, List.getElem_cons_zero, List.setIfInBounds_toArray, List.set_cons_zero, List.set_cons_succ]
  refine wpAnyH_done (by kernel_rfl) ?_ _
  clear hHeld
  go_wp2
  go_end0
  exact ⟨rfl, by rw [HD.out]; exact H.out⟩
set_option linter.unusedSimpArgs false in
set_option maxRecDepth 100000 in
set_option maxHeartbeats 6400000 in
theorem wfields3 {T U : TypeId} {w : World} {p b : Nat} {bs : List Nat} {O : Nat → Prop} {e : Ev} {a1 a2 a3 : Option Addr} {c1 c2 c3 : Nat} (h : Wtr T w p bs O) (hc : w.heap[b]? = some (.cells (evC e a1 a2 a3 c1 c2 c3) U (0, 0))) (hb : ¬ O b) (hm : EvM w a1 a2 a3 c1 c2 c3 e) (hfar : EvFar O a1 a2 a3 e)
    (hn1 : e.pol.bands.length ≤ 100) (hn2 : e.pol.slots.length ≤ 100) (hn3 : e.body.length ≤ 100000) (hlen : bs.length ≤ 900) (hk : e.kind = 3) :
    Calls Try.prog 21 #[.iface 73 (.pointer (some ⟨p, 0, none⟩)), .pointer (some ⟨b, 0, none⟩)] w fun r w' => r = .returned (.tuple #[]) ∧ WMv T w p (bs ++ code e) O w' := by
  have k0 : w.cell? ⟨b, 0, none⟩ = some (.int .i64 e.kind) := evC_cell hc 0 _ rfl
  have HD : Hid (code e = nb (e.id :: polN e.pol)) := by show _ = _; unfold code; simp [hk]
  have H := Lib.hid (WMv.start h)
  have HR := Lib.hid hm.v64.nums
  have HC : Hid (∀ j v, (evC e a1 a2 a3 c1 c2 c3)[j]? = some v → w.cell? ⟨b, j, none⟩ = some v) := evC_cell hc
  have HF : Hid (¬ O b ∧ (∀ k, O k → k < w.heap.size) ∧ b < w.heap.size) := ⟨hb, h.lt, lt_of_heap hc⟩
  have l0 := nb_len [e.id] (all_sub hm.v64.nums (by simp))
  simp only [List.length_cons, List.length_nil] at l0
  have HX : Hid (EvM w a1 a2 a3 c1 c2 c3 e ∧ (∀ O w', But O w w' → EvFar O a1 a2 a3 e → EvM w' a1 a2 a3 c1 c2 c3 e) ∧ EvFar O a1 a2 a3 e ∧ ∀ w' : World, w.heap.size ≤ w'.heap.size → w'.heap[b]? = w.heap[b]? → w'.heap[b]? = some (.cells (evC e a1 a2 a3 c1 c2 c3) U (0, 0))) :=
    ⟨hm, fun O w' hb hf => hm.but hb hf, hfar, fun w' _ h1 => h1.trans hc⟩
  rw [hk] at k0
  clear h hc hb hm hfar hk
  go_enter Try.func21, Try.ntmps21
  go_wp2_with fail
  refine wp_region_held_drew (S := fun _ => True) (by kernel_rfl) trivial (fun hHeld => ?_)
  refine wpAnyH_take (i := 0) (v := ?_) rfl (by kernel_rfl) (by kernel_rfl) (by kernel_rfl) (fun _ _ _ h => h) (Or.inl ⟨by rfl, ?_⟩) (by assumption) ?_
  rotate_left
  · intro w hSw
    (try dsimp only at hSw)
    go_simp
    all_goals with_reducible rfl
  try simp only [Act.put, List.getElem_toArray, List.getElem_cons_succ, List.getElem_cons_zero, List.setIfInBounds_toArray, List.set_cons_zero, List.set_cons_succ]
  refine wpAnyH_take (i := 1) (v := ?_) rfl (by kernel_rfl) (by kernel_rfl) (by kernel_rfl) (fun _ _ _ h => h) (Or.inl ⟨by rfl, ?_⟩) (by assumption) ?_
  rotate_left
  · intro w hSw
    (try dsimp only at hSw)
    go_simp
    all_goals with_reducible rfl
  try simp only [Act.put, List.getElem_toArray, List.getElem_cons_succ, List.getElem_cons_zero, List.setIfInBounds_toArray, List.set_cons_zero, List.set_cons_succ]
  refine wpAnyH_take (i := 2) (v := ?_) rfl (by kernel_rfl) (by kernel_rfl) (by kernel_rfl) (fun _ _ _ h => h) (Or.inl ⟨by rfl, ?_⟩) (by assumption) ?_
  rotate_left
  · intro w hSw
    (try dsimp only at hSw)
    go_simp
    all_goals with_reducible rfl
  try simp only [Act.put, List.getElem_toArray, List.getElem_cons_succ, List.getElem_cons_zero, List.setIfInBounds_toArray, List.set_cons_zero, List.set_cons_succ]
  refine wpAnyH_take (i := 3) (v := ?_) rfl (by kernel_rfl) (by kernel_rfl) (by kernel_rfl) (fun _ _ _ h => h) (Or.inl ⟨by rfl, ?_⟩) (by assumption) ?_
  rotate_left
  · intro w hSw
    (try dsimp only at hSw)
    go_simp
    all_goals with_reducible rfl
  try simp only [Act.put, List.getElem_toArray, List.getElem_cons_succ, List.getElem_cons_zero, List.setIfInBounds_toArray, List.set_cons_zero, List.set_cons_succ]
  refine wpAnyH_take (i := 5) (v := ?_) rfl (by kernel_rfl) (by kernel_rfl) (by kernel_rfl) (fun _ _ _ h => h) (Or.inl ⟨by rfl, ?_⟩) (by assumption) ?_
  rotate_left
  · intro w hSw
    (try dsimp only at hSw)
    go_simp
    all_goals with_reducible rfl
  try simp only [Act.put, List.getElem_toArray, List.getElem_cons_succ, List.getElem_cons_zero, List.setIfInBounds_toArray, List.set_cons_zero, List.set_cons_succ]
  refine wpAnyH_take (i := 6) (v := ?_) rfl (by kernel_rfl) (by kernel_rfl) (by kernel_rfl) (fun _ _ _ h => h) (Or.inl ⟨by rfl, ?_⟩) (by assumption) ?_
  rotate_left
  · intro w hSw
    (try dsimp only at hSw)
    go_simp
    all_goals with_reducible rfl
  try simp only [Act.put, List.getElem_toArray, List.getElem_cons_succ, List.getElem_cons_zero, List.setIfInBounds_toArray, List.set_cons_zero, List.set_cons_succ]
  refine wpAnyH_take (i := 7) (v := ?_) rfl (by kernel_rfl) (by kernel_rfl) (by kernel_rfl) (fun _ _ _ h => h) (Or.inl ⟨by rfl, ?_⟩) (by assumption) ?_
  rotate_left
  · intro w hSw
    (try dsimp only at hSw)
    go_simp
    all_goals with_reducible rfl
  try simp only [Act.put, List.getElem_toArray, List.getElem_cons_succ, List.getElem_cons_zero, List.setIfInBounds_toArray, List.set_cons_zero, List.set_cons_succ]
  refine wpAnyH_ready (rs := [4]) (by kernel_rfl) (by simp) ?_
  refine AllReadyH.cons rfl (fun K hK => ?_) AllReadyH.nil
  rw [if_pos (by rfl)]
  go_simp
  refine hK.out _ _ ?_ (fun hHeld => ?_)
  · exact trivial
  clear hK K
  try simp only [Act.put, List.getElem_toArray, List.getElem_cons_succ, List.getElem_cons_zero, List.setIfInBounds_toArray, List.set_cons_zero, List.set_cons_succ]
  refine wpAnyH_ready (rs := [8]) (by kernel_rfl) (by simp) ?_
  refine AllReadyH.cons rfl (fun K hK => ?_) AllReadyH.nil
  rw [if_pos (by rfl)]
  go_simp
  go_at_call 100
  refine (wints_new H.out (js := [4]) (vs := [e.id]) (Reads.cons (HC.out 4 _ rfl) Reads.nil) HF.out.1 HF.out.2.1 HF.out.2.2 (all_sub HR.out (by simp)) rfl rfl (by simp) (by (try simp only [List.length_append]); omega)).mono ?_
  rintro e w1 ⟨rfl, h1⟩
  clear H
  have H := Lib.hid h1
  clear h1
  refine hK.out _ _ ?_ (fun hHeld => ?_)
  · exact trivial
  clear hK K
  try simp only [Act.put, List.getElem_toArray, List.getElem_cons_succ, List.getElem_cons_zero, List.setIfInBounds_toArray, List.set_cons_zero, List.set_cons_succ]
  refine wpAnyH_done (by kernel_rfl) ?_ _
  clear hHeld
  have h9 := H.out
  obtain ⟨O1, q1, q2, q3⟩ := h9
  obtain ⟨x1, x2, x3, x4⟩ := HX.out
  have C := Lib.hid (wpol_any q1 (x4 w1 q2.size (q2.block b HF.out.2.2 HF.out.1)) (fun ho => by rcases q3 b ho with h | h; exact HF.out.1 h; have := HF.out.2.2; omega) (x2 O w1 q2 x3) (x3.more q3 x1) hn1 hn2 (by rw [List.length_append]; omega))
  have HY := Lib.hid (And.intro q2 q3)
  clear x1 x2 x3 x4 q1 q2 q3 H
  go_wp2_with fail
  refine C.out.mono ?_
  rintro r w2 ⟨rfl, h2⟩
  have h3 := WMv.then_ HY.out.1 HY.out.2 h2
  have H := Lib.hid h3
  clear h2 h3 C
  go_wp2
  go_end0
  exact ⟨rfl, by have h9 := H.out; rw [HD.out, nb_cons]; simpa [nb] using h9⟩
set_option linter.unusedSimpArgs false in
set_option maxRecDepth 100000 in
set_option maxHeartbeats 6400000 in
theorem wfields4 {T U : TypeId} {w : World} {p b : Nat} {bs : List Nat} {O : Nat → Prop} {e : Ev} {a1 a2 a3 : Option Addr} {c1 c2 c3 : Nat} (h : Wtr T w p bs O) (hc : w.heap[b]? = some (.cells (evC e a1 a2 a3 c1 c2 c3) U (0, 0))) (hb : ¬ O b) (hm : EvM w a1 a2 a3 c1 c2 c3 e) (hfar : EvFar O a1 a2 a3 e)
    (hn1 : e.pol.bands.length ≤ 100) (hn2 : e.pol.slots.length ≤ 100) (hn3 : e.body.length ≤ 100000) (hlen : bs.length ≤ 900) (hk : e.kind = 4) :
    Calls Try.prog 21 #[.iface 73 (.pointer (some ⟨p, 0, none⟩)), .pointer (some ⟨b, 0, none⟩)] w fun r w' => r = .returned (.tuple #[]) ∧ WMv T w p (bs ++ code e) O w' := by
  have k0 : w.cell? ⟨b, 0, none⟩ = some (.int .i64 e.kind) := evC_cell hc 0 _ rfl
  have HD : Hid (code e = nb (confN e.conf)) := by show _ = _; unfold code; simp [hk]
  have H := Lib.hid (WMv.start h)
  have HR := Lib.hid hm.v64.nums
  have HC : Hid (∀ j v, (evC e a1 a2 a3 c1 c2 c3)[j]? = some v → w.cell? ⟨b, j, none⟩ = some v) := evC_cell hc
  have HF : Hid (¬ O b ∧ (∀ k, O k → k < w.heap.size) ∧ b < w.heap.size) := ⟨hb, h.lt, lt_of_heap hc⟩
  have HCf : Hid ((∀ i, i < 12 → w.cell? ⟨b, 14 + i, none⟩ = some (.int .i64 ((confN e.conf).getD i 0))) ∧ All64 (confN e.conf)) := by
    refine ⟨fun i hi => ?_, hm.v64.conf⟩
    match i, hi with
    | 0, _ => exact evC_cell hc 14 _ rfl
    | 1, _ => exact evC_cell hc 15 _ rfl
    | 2, _ => exact evC_cell hc 16 _ rfl
    | 3, _ => exact evC_cell hc 17 _ rfl
    | 4, _ => exact evC_cell hc 18 _ rfl
    | 5, _ => exact evC_cell hc 19 _ rfl
    | 6, _ => exact evC_cell hc 20 _ rfl
    | 7, _ => exact evC_cell hc 21 _ rfl
    | 8, _ => exact evC_cell hc 22 _ rfl
    | 9, _ => exact evC_cell hc 23 _ rfl
    | 10, _ => exact evC_cell hc 24 _ rfl
    | 11, _ => exact evC_cell hc 25 _ rfl
  
  rw [hk] at k0
  clear h hc hb hm hfar hk
  go_enter Try.func21, Try.ntmps21
  go_wp2_with fail
  refine (wconf_any H.out HCf.out.1 HF.out.1 HF.out.2.1 HF.out.2.2 HCf.out.2 (by omega)).mono ?_
  rintro r w1 ⟨rfl, h1⟩
  clear H
  have H := Lib.hid h1
  clear h1
  go_wp2
  go_end0
  exact ⟨rfl, by rw [HD.out]; exact H.out⟩
set_option linter.unusedSimpArgs false in
set_option maxRecDepth 100000 in
set_option maxHeartbeats 6400000 in
theorem wfields5 {T U : TypeId} {w : World} {p b : Nat} {bs : List Nat} {O : Nat → Prop} {e : Ev} {a1 a2 a3 : Option Addr} {c1 c2 c3 : Nat} (h : Wtr T w p bs O) (hc : w.heap[b]? = some (.cells (evC e a1 a2 a3 c1 c2 c3) U (0, 0))) (hb : ¬ O b) (hm : EvM w a1 a2 a3 c1 c2 c3 e) (hfar : EvFar O a1 a2 a3 e)
    (hn1 : e.pol.bands.length ≤ 100) (hn2 : e.pol.slots.length ≤ 100) (hn3 : e.body.length ≤ 100000) (hlen : bs.length ≤ 900) (hk : e.kind = 5) :
    Calls Try.prog 21 #[.iface 73 (.pointer (some ⟨p, 0, none⟩)), .pointer (some ⟨b, 0, none⟩)] w fun r w' => r = .returned (.tuple #[]) ∧ WMv T w p (bs ++ code e) O w' := by
  have k0 : w.cell? ⟨b, 0, none⟩ = some (.int .i64 e.kind) := evC_cell hc 0 _ rfl
  have HD : Hid (code e = nb [e.t, e.n]) := by show _ = _; unfold code; simp [hk]
  have H := Lib.hid (WMv.start h)
  have HR := Lib.hid hm.v64.nums
  have HC : Hid (∀ j v, (evC e a1 a2 a3 c1 c2 c3)[j]? = some v → w.cell? ⟨b, j, none⟩ = some v) := evC_cell hc
  have HF : Hid (¬ O b ∧ (∀ k, O k → k < w.heap.size) ∧ b < w.heap.size) := ⟨hb, h.lt, lt_of_heap hc⟩
  have l0 := nb_len [e.t] (all_sub hm.v64.nums (by simp))
  simp only [List.length_cons, List.length_nil] at l0
  rw [hk] at k0
  clear h hc hb hm hfar hk
  go_enter Try.func21, Try.ntmps21
  go_wp2_with fail
  refine wp_region_held_drew (S := fun _ => True) (by kernel_rfl) trivial (fun hHeld => ?_)
  refine wpAnyH_take (i := 0) (v := ?_) rfl (by kernel_rfl) (by kernel_rfl) (by kernel_rfl) (fun _ _ _ h => h) (Or.inl ⟨by rfl, ?_⟩) (by assumption) ?_
  rotate_left
  · intro w hSw
    (try dsimp only at hSw)
    go_simp
    all_goals with_reducible rfl
  try simp only [Act.put, List.getElem_toArray, List.getElem_cons_succ, List.getElem_cons_zero, List.setIfInBounds_toArray, List.set_cons_zero, List.set_cons_succ]
  refine wpAnyH_take (i := 1) (v := ?_) rfl (by kernel_rfl) (by kernel_rfl) (by kernel_rfl) (fun _ _ _ h => h) (Or.inl ⟨by rfl, ?_⟩) (by assumption) ?_
  rotate_left
  · intro w hSw
    (try dsimp only at hSw)
    go_simp
    all_goals with_reducible rfl
  try simp only [Act.put, List.getElem_toArray, List.getElem_cons_succ, List.getElem_cons_zero, List.setIfInBounds_toArray, List.set_cons_zero, List.set_cons_succ]
  refine wpAnyH_take (i := 2) (v := ?_) rfl (by kernel_rfl) (by kernel_rfl) (by kernel_rfl) (fun _ _ _ h => h) (Or.inl ⟨by rfl, ?_⟩) (by assumption) ?_
  rotate_left
  · intro w hSw
    (try dsimp only at hSw)
    go_simp
    all_goals with_reducible rfl
  try simp only [Act.put, List.getElem_toArray, List.getElem_cons_succ, List.getElem_cons_zero, List.setIfInBounds_toArray, List.set_cons_zero, List.set_cons_succ]
  refine wpAnyH_take (i := 3) (v := ?_) rfl (by kernel_rfl) (by kernel_rfl) (by kernel_rfl) (fun _ _ _ h => h) (Or.inl ⟨by rfl, ?_⟩) (by assumption) ?_
  rotate_left
  · intro w hSw
    (try dsimp only at hSw)
    go_simp
    all_goals with_reducible rfl
  try simp only [Act.put, List.getElem_toArray, List.getElem_cons_succ, List.getElem_cons_zero, List.setIfInBounds_toArray, List.set_cons_zero, List.set_cons_succ]
  refine wpAnyH_take (i := 5) (v := ?_) rfl (by kernel_rfl) (by kernel_rfl) (by kernel_rfl) (fun _ _ _ h => h) (Or.inl ⟨by rfl, ?_⟩) (by assumption) ?_
  rotate_left
  · intro w hSw
    (try dsimp only at hSw)
    go_simp
    all_goals with_reducible rfl
  try simp only [Act.put, List.getElem_toArray, List.getElem_cons_succ, List.getElem_cons_zero, List.setIfInBounds_toArray, List.set_cons_zero, List.set_cons_succ]
  refine wpAnyH_take (i := 6) (v := ?_) rfl (by kernel_rfl) (by kernel_rfl) (by kernel_rfl) (fun _ _ _ h => h) (Or.inl ⟨by rfl, ?_⟩) (by assumption) ?_
  rotate_left
  · intro w hSw
    (try dsimp only at hSw)
    go_simp
    all_goals with_reducible rfl
  try simp only [Act.put, List.getElem_toArray, List.getElem_cons_succ, List.getElem_cons_zero, List.setIfInBounds_toArray, List.set_cons_zero, List.set_cons_succ]
  refine wpAnyH_take (i := 7) (v := ?_) rfl (by kernel_rfl) (by kernel_rfl) (by kernel_rfl) (fun _ _ _ h => h) (Or.inl ⟨by rfl, ?_⟩) (by assumption) ?_
  rotate_left
  · intro w hSw
    (try dsimp only at hSw)
    go_simp
    all_goals with_reducible rfl
  try simp only [Act.put, List.getElem_toArray, List.getElem_cons_succ, List.getElem_cons_zero, List.setIfInBounds_toArray, List.set_cons_zero, List.set_cons_succ]
  refine wpAnyH_ready (rs := [4]) (by kernel_rfl) (by simp) ?_
  refine AllReadyH.cons rfl (fun K hK => ?_) AllReadyH.nil
  rw [if_pos (by rfl)]
  go_simp
  refine hK.out _ _ ?_ (fun hHeld => ?_)
  · exact trivial
  clear hK K
  try simp only [Act.put, List.getElem_toArray, List.getElem_cons_succ, List.getElem_cons_zero, List.setIfInBounds_toArray, List.set_cons_zero, List.set_cons_succ]
  refine wpAnyH_ready (rs := [8]) (by kernel_rfl) (by simp) ?_
  refine AllReadyH.cons rfl (fun K hK => ?_) AllReadyH.nil
  rw [if_pos (by rfl)]
  go_simp
  go_at_call 101
  refine (wlongs_new H.out (js := [3]) (vs := [e.t]) (Reads.cons (HC.out 3 _ rfl) Reads.nil) HF.out.1 HF.out.2.1 HF.out.2.2 (all_sub HR.out (by simp)) rfl rfl (by simp) (by (try simp only [List.length_append]); omega)).mono ?_
  rintro e w1 ⟨rfl, h1⟩
  clear H
  have H := Lib.hid h1
  clear h1
  refine hK.out _ _ ?_ (fun hHeld => ?_)
  · exact trivial
  clear hK K
  try simp only [Act.put, List.getElem_toArray, List.getElem_cons_succ, List.getElem_cons_zero, List.setIfInBounds_toArray, List.set_cons_zero, List.set_cons_succ]
  refine wpAnyH_done (by kernel_rfl) ?_ _
  clear hHeld
  go_wp2_with fail
  refine wp_region_held_drew (S := fun _ => True) (by kernel_rfl) trivial (fun hHeld => ?_)
  refine wpAnyH_take (i := 0) (v := ?_) rfl (by kernel_rfl) (by kernel_rfl) (by kernel_rfl) (fun _ _ _ h => h) (Or.inl ⟨by rfl, ?_⟩) (by assumption) ?_
  rotate_left
  · intro w hSw
    (try dsimp only at hSw)
    go_simp
    all_goals with_reducible rfl
  try simp only [Act.put, List.getElem_toArray, List.getElem_cons_succ, List.getElem_cons_zero, List.setIfInBounds_toArray, List.set_cons_zero, List.set_cons_succ]
  refine wpAnyH_take (i := 1) (v := ?_) rfl (by kernel_rfl) (by kernel_rfl) (by kernel_rfl) (fun _ _ _ h => h) (Or.inl ⟨by rfl, ?_⟩) (by assumption) ?_
  rotate_left
  · intro w hSw
    (try dsimp only at hSw)
    go_simp
    all_goals with_reducible rfl
  try simp only [Act.put, List.getElem_toArray, List.getElem_cons_succ, List.getElem_cons_zero, List.setIfInBounds_toArray, List.set_cons_zero, List.set_cons_succ]
  refine wpAnyH_take (i := 2) (v := ?_) rfl (by kernel_rfl) (by kernel_rfl) (by kernel_rfl) (fun _ _ _ h => h) (Or.inl ⟨by rfl, ?_⟩) (by assumption) ?_
  rotate_left
  · intro w hSw
    (try dsimp only at hSw)
    go_simp
    all_goals with_reducible rfl
  try simp only [Act.put, List.getElem_toArray, List.getElem_cons_succ, List.getElem_cons_zero, List.setIfInBounds_toArray, List.set_cons_zero, List.set_cons_succ]
  refine wpAnyH_take (i := 3) (v := ?_) rfl (by kernel_rfl) (by kernel_rfl) (by kernel_rfl) (fun _ _ _ h => h) (Or.inl ⟨by rfl, ?_⟩) (by assumption) ?_
  rotate_left
  · intro w hSw
    (try dsimp only at hSw)
    go_simp
    all_goals with_reducible rfl
  try simp only [Act.put, List.getElem_toArray, List.getElem_cons_succ, List.getElem_cons_zero, List.setIfInBounds_toArray, List.set_cons_zero, List.set_cons_succ]
  refine wpAnyH_take (i := 5) (v := ?_) rfl (by kernel_rfl) (by kernel_rfl) (by kernel_rfl) (fun _ _ _ h => h) (Or.inl ⟨by rfl, ?_⟩) (by assumption) ?_
  rotate_left
  · intro w hSw
    (try dsimp only at hSw)
    go_simp
    all_goals with_reducible rfl
  try simp only [Act.put, List.getElem_toArray, List.getElem_cons_succ, List.getElem_cons_zero, List.setIfInBounds_toArray, List.set_cons_zero, List.set_cons_succ]
  refine wpAnyH_take (i := 6) (v := ?_) rfl (by kernel_rfl) (by kernel_rfl) (by kernel_rfl) (fun _ _ _ h => h) (Or.inl ⟨by rfl, ?_⟩) (by assumption) ?_
  rotate_left
  · intro w hSw
    (try dsimp only at hSw)
    go_simp
    all_goals with_reducible rfl
  try simp only [Act.put, List.getElem_toArray, List.getElem_cons_succ, List.getElem_cons_zero, List.setIfInBounds_toArray, List.set_cons_zero, List.set_cons_succ]
  refine wpAnyH_take (i := 7) (v := ?_) rfl (by kernel_rfl) (by kernel_rfl) (by kernel_rfl) (fun _ _ _ h => h) (Or.inl ⟨by rfl, ?_⟩) (by assumption) ?_
  rotate_left
  · intro w hSw
    (try dsimp only at hSw)
    go_simp
    all_goals with_reducible rfl
  try simp only [Act.put, List.getElem_toArray, List.getElem_cons_succ, List.getElem_cons_zero, List.setIfInBounds_toArray, List.set_cons_zero, List.set_cons_succ]
  refine wpAnyH_ready (rs := [4]) (by kernel_rfl) (by simp) ?_
  refine AllReadyH.cons rfl (fun K hK => ?_) AllReadyH.nil
  rw [if_pos (by rfl)]
  go_simp
  refine hK.out _ _ ?_ (fun hHeld => ?_)
  · exact trivial
  clear hK K
  try simp only [Act.put, List.getElem_toArray, List.getElem_cons_succ, List.getElem_cons_zero, List.setIfInBounds_toArray, List.set_cons_zero, List.set_cons_succ]
  refine wpAnyH_ready (rs := [8]) (by kernel_rfl) (by simp) ?_
  refine AllReadyH.cons rfl (fun K hK => ?_) AllReadyH.nil
  rw [if_pos (by rfl)]
  go_simp
  go_at_call 100
  refine (wints_new H.out (js := [5]) (vs := [e.n]) (Reads.cons (HC.out 5 _ rfl) Reads.nil) HF.out.1 HF.out.2.1 HF.out.2.2 (all_sub HR.out (by simp)) rfl rfl (by simp) (by (try simp only [List.length_append]); omega)).mono ?_
  rintro e w1 ⟨rfl, h1⟩
  clear H
  have H := Lib.hid h1
  clear h1
  refine hK.out _ _ ?_ (fun hHeld => ?_)
  · exact trivial
  clear hK K
  try simp only [Act.put, List.getElem_toArray, List.getElem_cons_succ, List.getElem_cons_zero, List.setIfInBounds_toArray, List.set_cons_zero, List.set_cons_succ]
  refine wpAnyH_done (by kernel_rfl) ?_ _
  clear hHeld
  go_wp2
  go_end0
  exact ⟨rfl, by have h9 := H.out; simp only [List.append_assoc, ← nb_append] at h9; rw [HD.out]; exact h9⟩
set_option linter.unusedSimpArgs false in
set_option maxRecDepth 100000 in
set_option maxHeartbeats 6400000 in
theorem wfields6 {T U : TypeId} {w : World} {p b : Nat} {bs : List Nat} {O : Nat → Prop} {e : Ev} {a1 a2 a3 : Option Addr} {c1 c2 c3 : Nat} (h : Wtr T w p bs O) (hc : w.heap[b]? = some (.cells (evC e a1 a2 a3 c1 c2 c3) U (0, 0))) (hb : ¬ O b) (hm : EvM w a1 a2 a3 c1 c2 c3 e) (hfar : EvFar O a1 a2 a3 e)
    (hn1 : e.pol.bands.length ≤ 100) (hn2 : e.pol.slots.length ≤ 100) (hn3 : e.body.length ≤ 100000) (hlen : bs.length ≤ 900) (hk : e.kind = 6) :
    Calls Try.prog 21 #[.iface 73 (.pointer (some ⟨p, 0, none⟩)), .pointer (some ⟨b, 0, none⟩)] w fun r w' => r = .returned (.tuple #[]) ∧ WMv T w p (bs ++ code e) O w' := by
  have k0 : w.cell? ⟨b, 0, none⟩ = some (.int .i64 e.kind) := evC_cell hc 0 _ rfl
  have HD : Hid (code e = nb [e.id]) := by show _ = _; unfold code; simp [hk]
  have H := Lib.hid (WMv.start h)
  have HR := Lib.hid hm.v64.nums
  have HC : Hid (∀ j v, (evC e a1 a2 a3 c1 c2 c3)[j]? = some v → w.cell? ⟨b, j, none⟩ = some v) := evC_cell hc
  have HF : Hid (¬ O b ∧ (∀ k, O k → k < w.heap.size) ∧ b < w.heap.size) := ⟨hb, h.lt, lt_of_heap hc⟩
  rw [hk] at k0
  clear h hc hb hm hfar hk
  go_enter Try.func21, Try.ntmps21
  go_wp2_with fail
  refine wp_region_held_drew (S := fun _ => True) (by kernel_rfl) trivial (fun hHeld => ?_)
  refine wpAnyH_take (i := 0) (v := ?_) rfl (by kernel_rfl) (by kernel_rfl) (by kernel_rfl) (fun _ _ _ h => h) (Or.inl ⟨by rfl, ?_⟩) (by assumption) ?_
  rotate_left
  · intro w hSw
    (try dsimp only at hSw)
    go_simp
    all_goals with_reducible rfl
  try simp only [Act.put, List.getElem_toArray, List.getElem_cons_succ, List.getElem_cons_zero, List.setIfInBounds_toArray, List.set_cons_zero, List.set_cons_succ]
  refine wpAnyH_take (i := 1) (v := ?_) rfl (by kernel_rfl) (by kernel_rfl) (by kernel_rfl) (fun _ _ _ h => h) (Or.inl ⟨by rfl, ?_⟩) (by assumption) ?_
  rotate_left
  · intro w hSw
    (try dsimp only at hSw)
    go_simp
    all_goals with_reducible rfl
  try simp only [Act.put, List.getElem_toArray, List.getElem_cons_succ, List.getElem_cons_zero, List.setIfInBounds_toArray, List.set_cons_zero, List.set_cons_succ]
  refine wpAnyH_take (i := 2) (v := ?_) rfl (by kernel_rfl) (by kernel_rfl) (by kernel_rfl) (fun _ _ _ h => h) (Or.inl ⟨by rfl, ?_⟩) (by assumption) ?_
  rotate_left
  · intro w hSw
    (try dsimp only at hSw)
    go_simp
    all_goals with_reducible rfl
  try simp only [Act.put, List.getElem_toArray, List.getElem_cons_succ, List.getElem_cons_zero, List.setIfInBounds_toArray, List.set_cons_zero, List.set_cons_succ]
  refine wpAnyH_take (i := 3) (v := ?_) rfl (by kernel_rfl) (by kernel_rfl) (by kernel_rfl) (fun _ _ _ h => h) (Or.inl ⟨by rfl, ?_⟩) (by assumption) ?_
  rotate_left
  · intro w hSw
    (try dsimp only at hSw)
    go_simp
    all_goals with_reducible rfl
  try simp only [Act.put, List.getElem_toArray, List.getElem_cons_succ, List.getElem_cons_zero, List.setIfInBounds_toArray, List.set_cons_zero, List.set_cons_succ]
  refine wpAnyH_take (i := 5) (v := ?_) rfl (by kernel_rfl) (by kernel_rfl) (by kernel_rfl) (fun _ _ _ h => h) (Or.inl ⟨by rfl, ?_⟩) (by assumption) ?_
  rotate_left
  · intro w hSw
    (try dsimp only at hSw)
    go_simp
    all_goals with_reducible rfl
  try simp only [Act.put, List.getElem_toArray, List.getElem_cons_succ, List.getElem_cons_zero, List.setIfInBounds_toArray, List.set_cons_zero, List.set_cons_succ]
  refine wpAnyH_take (i := 6) (v := ?_) rfl (by kernel_rfl) (by kernel_rfl) (by kernel_rfl) (fun _ _ _ h => h) (Or.inl ⟨by rfl, ?_⟩) (by assumption) ?_
  rotate_left
  · intro w hSw
    (try dsimp only at hSw)
    go_simp
    all_goals with_reducible rfl
  try simp only [Act.put, List.getElem_toArray, List.getElem_cons_succ, List.getElem_cons_zero, List.setIfInBounds_toArray, List.set_cons_zero, List.set_cons_succ]
  refine wpAnyH_take (i := 7) (v := ?_) rfl (by kernel_rfl) (by kernel_rfl) (by kernel_rfl) (fun _ _ _ h => h) (Or.inl ⟨by rfl, ?_⟩) (by assumption) ?_
  rotate_left
  · intro w hSw
    (try dsimp only at hSw)
    go_simp
    all_goals with_reducible rfl
  try simp only [Act.put, List.getElem_toArray, List.getElem_cons_succ, List.getElem_cons_zero, List.setIfInBounds_toArray, List.set_cons_zero, List.set_cons_succ]
  refine wpAnyH_ready (rs := [4]) (by kernel_rfl) (by simp) ?_
  refine AllReadyH.cons rfl (fun K hK => ?_) AllReadyH.nil
  rw [if_pos (by rfl)]
  go_simp
  refine hK.out _ _ ?_ (fun hHeld => ?_)
  · exact trivial
  clear hK K
  try simp only [Act.put, List.getElem_toArray, List.getElem_cons_succ, List.getElem_cons_zero, List.setIfInBounds_toArray, List.set_cons_zero, List.set_cons_succ]
  refine wpAnyH_ready (rs := [8]) (by kernel_rfl) (by simp) ?_
  refine AllReadyH.cons rfl (fun K hK => ?_) AllReadyH.nil
  rw [if_pos (by rfl)]
  go_simp
  go_at_call 100
  refine (wints_new H.out (js := [4]) (vs := [e.id]) (Reads.cons (HC.out 4 _ rfl) Reads.nil) HF.out.1 HF.out.2.1 HF.out.2.2 (all_sub HR.out (by simp)) rfl rfl (by simp) (by (try simp only [List.length_append]); omega)).mono ?_
  rintro e w1 ⟨rfl, h1⟩
  clear H
  have H := Lib.hid h1
  clear h1
  refine hK.out _ _ ?_ (fun hHeld => ?_)
  · exact trivial
  clear hK K
  try simp only [Act.put, List.getElem_toArray, List.getElem_cons_succ, List.getElem_cons_zero, List.setIfInBounds_toArray, List.set_cons_zero, List.set_cons_succ]
  refine wpAnyH_done (by kernel_rfl) ?_ _
  clear hHeld
  go_wp2
  go_end0
  exact ⟨rfl, by rw [HD.out]; exact H.out⟩
set_option linter.unusedSimpArgs false in
set_option maxRecDepth 100000 in
set_option maxHeartbeats 6400000 in
theorem wfields7 {T U : TypeId} {w : World} {p b : Nat} {bs : List Nat} {O : Nat → Prop} {e : Ev} {a1 a2 a3 : Option Addr} {c1 c2 c3 : Nat} (h : Wtr T w p bs O) (hc : w.heap[b]? = some (.cells (evC e a1 a2 a3 c1 c2 c3) U (0, 0))) (hb : ¬ O b) (hm : EvM w a1 a2 a3 c1 c2 c3 e) (hfar : EvFar O a1 a2 a3 e)
    (hn1 : e.pol.bands.length ≤ 100) (hn2 : e.pol.slots.length ≤ 100) (hn3 : e.body.length ≤ 100000) (hlen : bs.length ≤ 900) (hk : e.kind = 7) :
    Calls Try.prog 21 #[.iface 73 (.pointer (some ⟨p, 0, none⟩)), .pointer (some ⟨b, 0, none⟩)] w fun r w' => r = .returned (.tuple #[]) ∧ WMv T w p (bs ++ code e) O w' := by
  have k0 : w.cell? ⟨b, 0, none⟩ = some (.int .i64 e.kind) := evC_cell hc 0 _ rfl
  have HD : Hid (code e = nb [e.id]) := by show _ = _; unfold code; simp [hk]
  have H := Lib.hid (WMv.start h)
  have HR := Lib.hid hm.v64.nums
  have HC : Hid (∀ j v, (evC e a1 a2 a3 c1 c2 c3)[j]? = some v → w.cell? ⟨b, j, none⟩ = some v) := evC_cell hc
  have HF : Hid (¬ O b ∧ (∀ k, O k → k < w.heap.size) ∧ b < w.heap.size) := ⟨hb, h.lt, lt_of_heap hc⟩
  rw [hk] at k0
  clear h hc hb hm hfar hk
  go_enter Try.func21, Try.ntmps21
  go_wp2_with fail
  refine wp_region_held_drew (S := fun _ => True) (by kernel_rfl) trivial (fun hHeld => ?_)
  refine wpAnyH_take (i := 0) (v := ?_) rfl (by kernel_rfl) (by kernel_rfl) (by kernel_rfl) (fun _ _ _ h => h) (Or.inl ⟨by rfl, ?_⟩) (by assumption) ?_
  rotate_left
  · intro w hSw
    (try dsimp only at hSw)
    go_simp
    all_goals with_reducible rfl
  try simp only [Act.put, List.getElem_toArray, List.getElem_cons_succ, List.getElem_cons_zero, List.setIfInBounds_toArray, List.set_cons_zero, List.set_cons_succ]
  refine wpAnyH_take (i := 1) (v := ?_) rfl (by kernel_rfl) (by kernel_rfl) (by kernel_rfl) (fun _ _ _ h => h) (Or.inl ⟨by rfl, ?_⟩) (by assumption) ?_
  rotate_left
  · intro w hSw
    (try dsimp only at hSw)
    go_simp
    all_goals with_reducible rfl
  try simp only [Act.put, List.getElem_toArray, List.getElem_cons_succ, List.getElem_cons_zero, List.setIfInBounds_toArray, List.set_cons_zero, List.set_cons_succ]
  refine wpAnyH_take (i := 2) (v := ?_) rfl (by kernel_rfl) (by kernel_rfl) (by kernel_rfl) (fun _ _ _ h => h) (Or.inl ⟨by rfl, ?_⟩) (by assumption) ?_
  rotate_left
  · intro w hSw
    (try dsimp only at hSw)
    go_simp
    all_goals with_reducible rfl
  try simp only [Act.put, List.getElem_toArray, List.getElem_cons_succ, List.getElem_cons_zero, List.setIfInBounds_toArray, List.set_cons_zero, List.set_cons_succ]
  refine wpAnyH_take (i := 3) (v := ?_) rfl (by kernel_rfl) (by kernel_rfl) (by kernel_rfl) (fun _ _ _ h => h) (Or.inl ⟨by rfl, ?_⟩) (by assumption) ?_
  rotate_left
  · intro w hSw
    (try dsimp only at hSw)
    go_simp
    all_goals with_reducible rfl
  try simp only [Act.put, List.getElem_toArray, List.getElem_cons_succ, List.getElem_cons_zero, List.setIfInBounds_toArray, List.set_cons_zero, List.set_cons_succ]
  refine wpAnyH_take (i := 5) (v := ?_) rfl (by kernel_rfl) (by kernel_rfl) (by kernel_rfl) (fun _ _ _ h => h) (Or.inl ⟨by rfl, ?_⟩) (by assumption) ?_
  rotate_left
  · intro w hSw
    (try dsimp only at hSw)
    go_simp
    all_goals with_reducible rfl
  try simp only [Act.put, List.getElem_toArray, List.getElem_cons_succ, List.getElem_cons_zero, List.setIfInBounds_toArray, List.set_cons_zero, List.set_cons_succ]
  refine wpAnyH_take (i := 6) (v := ?_) rfl (by kernel_rfl) (by kernel_rfl) (by kernel_rfl) (fun _ _ _ h => h) (Or.inl ⟨by rfl, ?_⟩) (by assumption) ?_
  rotate_left
  · intro w hSw
    (try dsimp only at hSw)
    go_simp
    all_goals with_reducible rfl
  try simp only [Act.put, List.getElem_toArray, List.getElem_cons_succ, List.getElem_cons_zero, List.setIfInBounds_toArray, List.set_cons_zero, List.set_cons_succ]
  refine wpAnyH_take (i := 7) (v := ?_) rfl (by kernel_rfl) (by kernel_rfl) (by kernel_rfl) (fun _ _ _ h => h) (Or.inl ⟨by rfl, ?_⟩) (by assumption) ?_
  rotate_left
  · intro w hSw
    (try dsimp only at hSw)
    go_simp
    all_goals with_reducible rfl
  try simp only [Act.put, List.getElem_toArray, List.getElem_cons_succ, List.getElem_cons_zero, List.setIfInBounds_toArray, List.set_cons_zero, List.set_cons_succ]
  refine wpAnyH_ready (rs := [4]) (by kernel_rfl) (by simp) ?_
  refine AllReadyH.cons rfl (fun K hK => ?_) AllReadyH.nil
  rw [if_pos (by rfl)]
  go_simp
  refine hK.out _ _ ?_ (fun hHeld => ?_)
  · exact trivial
  clear hK K
  try simp only [Act.put, List.getElem_toArray, List.getElem_cons_succ, List.getElem_cons_zero, List.setIfInBounds_toArray, List.set_cons_zero, List.set_cons_succ]
  refine wpAnyH_ready (rs := [8]) (by kernel_rfl) (by simp) ?_
  refine AllReadyH.cons rfl (fun K hK => ?_) AllReadyH.nil
  rw [if_pos (by rfl)]
  go_simp
  go_at_call 100
  refine (wints_new H.out (js := [4]) (vs := [e.id]) (Reads.cons (HC.out 4 _ rfl) Reads.nil) HF.out.1 HF.out.2.1 HF.out.2.2 (all_sub HR.out (by simp)) rfl rfl (by simp) (by (try simp only [List.length_append]); omega)).mono ?_
  rintro e w1 ⟨rfl, h1⟩
  clear H
  have H := Lib.hid h1
  clear h1
  refine hK.out _ _ ?_ (fun hHeld => ?_)
  · exact trivial
  clear hK K
  try simp only [Act.put, List.getElem_toArray, List.getElem_cons_succ, List.getElem_cons_zero, List.setIfInBounds_toArray, List.set_cons_zero, List.set_cons_succ]
  refine wpAnyH_done (by kernel_rfl) ?_ _
  clear hHeld
  go_wp2
  go_end0
  exact ⟨rfl, by rw [HD.out]; exact H.out⟩
set_option linter.unusedSimpArgs false in
set_option maxRecDepth 100000 in
set_option maxHeartbeats 6400000 in
theorem wfields8 {T U : TypeId} {w : World} {p b : Nat} {bs : List Nat} {O : Nat → Prop} {e : Ev} {a1 a2 a3 : Option Addr} {c1 c2 c3 : Nat} (h : Wtr T w p bs O) (hc : w.heap[b]? = some (.cells (evC e a1 a2 a3 c1 c2 c3) U (0, 0))) (hb : ¬ O b) (hm : EvM w a1 a2 a3 c1 c2 c3 e) (hfar : EvFar O a1 a2 a3 e)
    (hn1 : e.pol.bands.length ≤ 100) (hn2 : e.pol.slots.length ≤ 100) (hn3 : e.body.length ≤ 100000) (hlen : bs.length ≤ 900) (hk : e.kind = 8) :
    Calls Try.prog 21 #[.iface 73 (.pointer (some ⟨p, 0, none⟩)), .pointer (some ⟨b, 0, none⟩)] w fun r w' => r = .returned (.tuple #[]) ∧ WMv T w p (bs ++ code e) O w' := by
  have k0 : w.cell? ⟨b, 0, none⟩ = some (.int .i64 e.kind) := evC_cell hc 0 _ rfl
  have HD : Hid (code e = dg (cnt (e.body.length : Int)) ++ e.body) := by show _ = _; unfold code; simp [hk]
  have H := Lib.hid (WMv.start h)
  have HR := Lib.hid hm.v64.nums
  have HC : Hid (∀ j v, (evC e a1 a2 a3 c1 c2 c3)[j]? = some v → w.cell? ⟨b, j, none⟩ = some v) := evC_cell hc
  have HF : Hid (¬ O b ∧ (∀ k, O k → k < w.heap.size) ∧ b < w.heap.size) := ⟨hb, h.lt, lt_of_heap hc⟩
  have HX := Lib.hid (And.intro hm.body hfar.body)
  rw [hk] at k0
  clear h hc hb hm hfar hk
  go_enter Try.func21, Try.ntmps21
  go_wp2_with fail
  refine wp_region_held_drew (S := fun _ => True) (by kernel_rfl) trivial (fun hHeld => ?_)
  refine wpAnyH_take (i := 0) (v := ?_) rfl (by kernel_rfl) (by kernel_rfl) (by kernel_rfl) (fun _ _ _ h => h) (Or.inl ⟨by rfl, ?_⟩) (by assumption) ?_
  rotate_left
  · intro w hSw
    (try dsimp only at hSw)
    go_simp
    all_goals with_reducible rfl
  try simp only [Act.put, List.getElem_toArray, List.getElem_cons_succ, List.getElem_cons_zero, List.setIfInBounds_toArray, List.set_cons_zero, List.set_cons_succ]
  refine wpAnyH_take (i := 1) (v := ?_) rfl (by kernel_rfl) (by kernel_rfl) (by kernel_rfl) (fun _ _ _ h => h) (Or.inl ⟨by rfl, ?_⟩) (by assumption) ?_
  rotate_left
  · intro w hSw
    (try dsimp only at hSw)
    go_simp
    all_goals with_reducible rfl
  try simp only [Act.put, List.getElem_toArray, List.getElem_cons_succ, List.getElem_cons_zero, List.setIfInBounds_toArray, List.set_cons_zero, List.set_cons_succ]
  refine wpAnyH_take (i := 2) (v := ?_) rfl (by kernel_rfl) (by kernel_rfl) (by kernel_rfl) (fun _ _ _ h => h) (Or.inl ⟨by rfl, ?_⟩) (by assumption) ?_
  rotate_left
  · intro w hSw
    (try dsimp only at hSw)
    go_simp
    all_goals with_reducible rfl
  try simp only [Act.put, List.getElem_toArray, List.getElem_cons_succ, List.getElem_cons_zero, List.setIfInBounds_toArray, List.set_cons_zero, List.set_cons_succ]
  refine wpAnyH_take (i := 3) (v := ?_) rfl (by kernel_rfl) (by kernel_rfl) (by kernel_rfl) (fun _ _ _ h => h) (Or.inl ⟨by rfl, ?_⟩) (by assumption) ?_
  rotate_left
  · intro w hSw
    (try dsimp only at hSw)
    go_simp
    all_goals with_reducible rfl
  try simp only [Act.put, List.getElem_toArray, List.getElem_cons_succ, List.getElem_cons_zero, List.setIfInBounds_toArray, List.set_cons_zero, List.set_cons_succ]
  refine wpAnyH_take (i := 4) (v := ?_) rfl (by kernel_rfl) (by kernel_rfl) (by kernel_rfl) (fun _ _ _ h => h) (Or.inl ⟨by rfl, ?_⟩) (by assumption) ?_
  rotate_left
  · intro w hSw
    (try dsimp only at hSw)
    go_simp
    all_goals with_reducible rfl
  try simp only [Act.put, List.getElem_toArray, List.getElem_cons_succ, List.getElem_cons_zero, List.setIfInBounds_toArray, List.set_cons_zero, List.set_cons_succ]
  refine wpAnyH_take (i := 5) (v := ?_) rfl (by kernel_rfl) (by kernel_rfl) (by kernel_rfl) (fun _ _ _ h => h) (Or.inl ⟨by rfl, ?_⟩) (by assumption) ?_
  rotate_left
  · intro w hSw
    (try dsimp only at hSw)
    go_simp
    all_goals with_reducible rfl
  try simp only [Act.put, List.getElem_toArray, List.getElem_cons_succ, List.getElem_cons_zero, List.setIfInBounds_toArray, List.set_cons_zero, List.set_cons_succ]
  refine wpAnyH_take (i := 6) (v := ?_) rfl (by kernel_rfl) (by kernel_rfl) (by kernel_rfl) (fun _ _ _ h => h) (Or.inl ⟨by rfl, ?_⟩) (by assumption) ?_
  rotate_left
  · intro w hSw
    (try dsimp only at hSw)
    go_simp
    all_goals with_reducible rfl
  try simp only [Act.put, List.getElem_toArray, List.getElem_cons_succ, List.getElem_cons_zero, List.setIfInBounds_toArray, List.set_cons_zero, List.set_cons_succ]
  refine wpAnyH_ready (rs := [7]) (by kernel_rfl) (by simp) ?_
  refine AllReadyH.cons rfl (fun K hK => ?_) AllReadyH.nil
  rw [if_pos (by rfl)]
  go_simp
  go_at_call 102
  refine (wtext_new H.out.drew a3 e.body.length c3 e.body (HC.out 26 _ rfl) HF.out.1 HX.out.1 HX.out.2 (by omega) (by omega) _).mono ?_
  rintro r w1 ⟨rfl, h1⟩
  clear H
  have H := Lib.hid h1
  clear h1
  refine hK.out _ _ ?_ (fun hHeld => ?_)
  · exact trivial
  clear hK K
  try simp only [Act.put, List.getElem_toArray, List.getElem_cons_succ, List.getElem_cons_zero, List.setIfInBounds_toArray, List.set_cons_zero, List.set_cons_succ]
  refine wpAnyH_done (by kernel_rfl) ?_ _
  clear hHeld
  go_wp2
  go_end0
  exact ⟨rfl, by rw [HD.out]; exact H.out⟩
end Go.Proofs.Ytnpakjdgcmbcnaa
