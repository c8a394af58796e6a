/- The places of a plant, told from behind: what fromBehind's closure tells. -/
import Derived.Test.YtcfehddnccdejaaQlK
import Derived.Sort.CutIn
namespace Go.Proofs.Ytcfehddnccdejaa
set_option linter.unusedSimpArgs false
set_option linter.unusedVariables false
open Go.RowKit Go.Shelf
open Evn Plt
attribute [local go_sem] Oper.semAt_some

theorem qite_yes {b : Bool} {p q : Prop} (h : b = true) (hp : p) : if b = true then p else q := by rw [if_pos h]; exact hp
theorem Rdb.on {X Y : World} {a : Option Addr} {len : Nat} (h : Rdb X a len) (hb : Below X.heap.size X Y) : Rdb Y a len := fun hp => by
  obtain ⟨b, o, e, hc⟩ := h hp
  exact ⟨b, o, e, fun j hj => by
    obtain ⟨x, hx⟩ := hc j hj
    exact ⟨x, (hb.cell (p := ⟨b, o + j, none⟩) (block_lt_of_cell hx)).trans hx⟩⟩
set_option linter.unusedSimpArgs false in
set_option maxRecDepth 100000 in
set_option maxHeartbeats 4000000 in
theorem qfrom_tells (B1 g : Nat) (a : Option Addr) (len cap : Nat) (hl : len ≤ 8) (w : World) :
    TellsN Fence.wide 9 Try.prog 38 #[.pointer (some ⟨B1, 0, none⟩)] (fun k (_ : Unit) => #[.pointer (some (plc a g len k))]) (fun _ X => Boxed X B1 47 (.pointer (some ⟨g, 0, none⟩)) ∧ X.cell? ⟨g, 1, none⟩ = some (.slice a len cap) ∧ Rdb X a len) (len + 1) w := by
  intro l J Jx W hBW hsz hJ hJx hU hY h0
  obtain ⟨u1, u2, u3⟩ := hU 0 W h0
  obtain ⟨W1, hW1⟩ : ∃ W1, W1 = W.alloc (.cells #[.func (.yield l) #[] #[]] 59) := ⟨_, rfl⟩
  have hb1 : Below W.heap.size W W1 := by rw [hW1]; exact bel1 (Below.refl _ _) _
  have b0 : Boxed W1 W.heap.size 59 (.func (.yield l) #[] #[]) := by rw [hW1]; exact Boxed.new _ _ _
  have hs1 : W1.heap.size = W.heap.size + 1 := by rw [hW1]; simp
  have c1 : W1.cell? ⟨B1, 0, none⟩ = some (.pointer (some ⟨g, 0, none⟩)) := (hb1.cell (p := ⟨B1, 0, none⟩) u1.lt).trans u1.cell
  have c2 : W1.cell? ⟨g, 1, none⟩ = some (.slice a len cap) := (hb1.cell (p := ⟨g, 1, none⟩) (block_lt_of_cell u2)).trans u2
  have h01 : J 0 W1 := own_on hJ h0 hb1
  obtain ⟨W2, hW2⟩ : ∃ W2, W2 = W1.alloc (.cells #[.slice a len cap] 24) := ⟨_, rfl⟩
  have hb2 : Below W1.heap.size W1 W2 := by rw [hW2]; exact bel1 (Below.refl _ _) _
  have bs : Boxed W2 W1.heap.size 24 (.slice a len cap) := by rw [hW2]; exact Boxed.new _ _ _
  have b02 : Boxed W2 W.heap.size 59 (.func (.yield l) #[] #[]) := by rw [hW2]; exact b0.alloc _
  have hs2 : W2.heap.size = W.heap.size + 2 := by rw [hW2]; simp; omega
  have HI : Hid (J 0 W2 ∧ Boxed W2 W.heap.size 59 (.func (.yield l) #[] #[]) ∧ Boxed W2 W1.heap.size 24 (.slice a len cap)) := ⟨own_on hJ h01 hb2, b02, bs⟩
  have HJ := Lib.hid hJ
  have HJx := Lib.hid hJx
  have HU := Lib.hid hU
  have HY := Lib.hid hY
  have HS := Lib.hid (And.intro hsz (And.intro hs1 hs2))
  have HW1 := Lib.hid hW1
  have HW2 := Lib.hid hW2
  clear hBW hsz hJ hJx hU hY h0 u1 u2 u3 hW1 hW2 hb1 hb2 b0 bs b02 h01 hs1 hs2
  refine callsIn_of_wp_marks Try.func38 rfl trivial ?_ rfl
  simp only [Try.ntmps38, List.size_toArray, List.length_cons, List.length_nil, Nat.reduceAdd, Nat.reduceSub, Array.replicate_succ, Array.replicate_zero, List.push_toArray, List.append_toArray, List.nil_append, List.cons_append]
  gi_upto_region 1 with fail
  rw [← HW1.out]
  gi_wp2_with fail
  refine ⟨trivial, (callsIn_wide.2 (callsIn_wide.1 (qback_in _ _ _ _))).mono ?_⟩
  rintro e w' ⟨rfl, rfl⟩
  gi_wp2_with fail
  rw [← HW2.out]
  refine range_N rfl (by omega) (gf := 42) (lb := #[.pointer (some ⟨W1.heap.size, 0, none⟩)]) rfl trivial (enters_of Try.func42 (by kernel_rfl) rfl) (TellsN.wide (qback_tells W1.heap.size a len cap (by omega) W2)) (fun _ _ => rfl)
    (fun k X => J k X ∧ Boxed X W.heap.size 59 (.func (.yield l) #[] #[]) ∧ Boxed X W1.heap.size 24 (.slice a len cap))
    (fun c X => c = .ret ∧ Jx X)
    ?hI ?hIx ?hU HI.out (fun k x => { tmps := #[.func (.yield l) #[] #[], .pointer (some ⟨B1, 0, none⟩), .pointer (some ⟨W.heap.size, 0, none⟩), .int .i64 ((len - 1 - k : Nat) : Int), .pointer (some ⟨g, 0, none⟩), .pointer (some ⟨g, 0, none⟩), .pointer (some ⟨g, 1, none⟩), .slice a len cap, .func (.func 42) #[] #[.pointer (some ⟨W1.heap.size, 0, none⟩)], .int .i64 ((len - 1 - k : Nat) : Int), .int .i64 x, undef, undef, undef, undef, undef, undef, undef, undef, undef, undef, undef, undef, undef, undef], defers := [] }) ?assign ?body ?done ?stop
  case hI =>
    intro s X Y row h hg hr
    have hne : ∀ j, j < W.heap.size + 2 → some j ≠ row := fun j hj e => by have := (hr j e.symm).1; have := HS.out; omega
    exact ⟨HJ.out s X Y row h.1 hg (fun r e => ⟨by have := (hr r e).1; have := HS.out; omega, (hr r e).2⟩), h.2.1.kept hg (hne _ (by omega)), h.2.2.kept hg (hne _ (by have := HS.out; omega))⟩
  case hIx =>
    intro s X Y row h hg hr
    exact ⟨h.1, HJx.out () X Y row h.2 hg (fun r e => ⟨by have := (hr r e).1; have := HS.out; omega, (hr r e).2⟩)⟩
  case hU => exact fun k X h => ⟨h.2.2, (HU.out k X h.1).2.2⟩
  case assign =>
    intro l2 k x X K hI hk hK
    gi_wp2
    exact hK
  case body =>
    rintro l2 k x X ⟨hj, b0, bs⟩ hk hsz2
    have hj2 := own_on HJ.out hj (Below.drew (Below.refl X.heap.size X))
    obtain ⟨u1, u2, u3⟩ := HU.out k _ hj2
    have c0 := (b0.kept (below_grown (Below.drew (Below.refl X.heap.size X))) (by simp)).cell
    have c1 := u1.cell
    have c2 := u2
    obtain ⟨b, o, rfl, _⟩ := u3 (by omega)
    have hp : plc (some ⟨b, o, none⟩) g len k = ⟨b, o + (len - 1 - k), none⟩ := by unfold plc; rw [if_pos hk]
    have hy9 := yield_wide (l0 := l2) (m' := 6) (HY.out k () _ hj2 (by omega))
    rw [hp] at hy9
    obtain ⟨fn, tmps, assign, body, hy, hR⟩ := hy9
    try dsimp only at hy
    have HR := Lib.hid hR
    have HB := Lib.hid (And.intro b0 (And.intro bs hk))
    obtain ⟨q, hq⟩ : ∃ q, q = len - 1 - k := ⟨_, rfl⟩
    rw [← hq] at hy hp ⊢
    have hq1 : (q : Int) < (len : Int) := by omega
    have hq0 : (0 : Int) ≤ (q : Int) := by omega
    clear hR u1 u2 u3 b0 bs hj hj2 hp hq hk hsz2
    gi_wp2_with fail
    refine region_tailG (S := fun Y => Y = X.drew) [7, 8] (by kernel_rfl) rfl (fun hHeld => ?_)
    refine takeG [7,8] (i := 0) (v := ?_) (by kernel_rfl) rfl (by kernel_rfl) (by kernel_rfl) (by kernel_rfl) (by kernel_rfl) (fun _ _ _ h => h) (Or.inl ⟨by rfl, ?_⟩) (fun _ => rfl) (by assumption) ?_
    rotate_left
    · intro w hSw
      (try dsimp only at hSw)
      go_simp
      all_goals with_reducible rfl
    try simp only [Act.put, List.getElem_toArray, List.getElem_cons_succ, List.getElem_cons_zero, List.setIfInBounds_toArray, List.set_cons_zero, List.set_cons_succ]
    refine takeG [2,3,4,6,7,8] (i := 1) (v := ?_) (by kernel_rfl) rfl (by kernel_rfl) (by kernel_rfl) (by kernel_rfl) (by kernel_rfl) (fun _ _ _ h => h) (Or.inl ⟨by rfl, ?_⟩) (fun _ => rfl) (by assumption) ?_
    rotate_left
    · intro w hSw
      (try dsimp only at hSw)
      go_simp
      all_goals with_reducible rfl
    try simp only [Act.put, List.getElem_toArray, List.getElem_cons_succ, List.getElem_cons_zero, List.setIfInBounds_toArray, List.set_cons_zero, List.set_cons_succ]
    refine takeG [3,4,6,7,8] (i := 2) (v := ?_) (by kernel_rfl) rfl (by kernel_rfl) (by kernel_rfl) (by kernel_rfl) (by kernel_rfl) (fun _ _ _ h => h) (Or.inl ⟨by rfl, ?_⟩) (fun _ => rfl) (by assumption) ?_
    rotate_left
    · intro w hSw
      (try dsimp only at hSw)
      go_simp
      all_goals with_reducible rfl
    try simp only [Act.put, List.getElem_toArray, List.getElem_cons_succ, List.getElem_cons_zero, List.setIfInBounds_toArray, List.set_cons_zero, List.set_cons_succ]
    refine takeG [4,6,7,8] (i := 3) (v := ?_) (by kernel_rfl) rfl (by kernel_rfl) (by kernel_rfl) (by kernel_rfl) (by kernel_rfl) (fun _ _ _ h => h) (Or.inl ⟨by rfl, ?_⟩) (fun _ => rfl) (by assumption) ?_
    rotate_left
    · intro w hSw
      (try dsimp only at hSw)
      go_simp
      all_goals with_reducible rfl
    try simp only [Act.put, List.getElem_toArray, List.getElem_cons_succ, List.getElem_cons_zero, List.setIfInBounds_toArray, List.set_cons_zero, List.set_cons_succ]
    refine takeG [6,7,8] (i := 4) (v := ?_) (by kernel_rfl) rfl (by kernel_rfl) (by kernel_rfl) (by kernel_rfl) (by kernel_rfl) (fun _ _ _ h => h) (Or.inl ⟨by rfl, ?_⟩) (fun _ => rfl) (by assumption) ?_
    rotate_left
    · intro w hSw
      (try dsimp only at hSw)
      go_simp
      all_goals with_reducible rfl
    try simp only [Act.put, List.getElem_toArray, List.getElem_cons_succ, List.getElem_cons_zero, List.setIfInBounds_toArray, List.set_cons_zero, List.set_cons_succ]
    refine takeG [6,7,8] (i := 5) (v := ?_) (by kernel_rfl) rfl (by kernel_rfl) (by kernel_rfl) (by kernel_rfl) (by kernel_rfl) (fun _ _ _ h => h) (Or.inl ⟨by rfl, ?_⟩) (fun _ => rfl) (by assumption) ?_
    rotate_left
    · intro w hSw
      (try dsimp only at hSw)
      go_simp
      all_goals with_reducible rfl
    try simp only [Act.put, List.getElem_toArray, List.getElem_cons_succ, List.getElem_cons_zero, List.setIfInBounds_toArray, List.set_cons_zero, List.set_cons_succ]
    refine takeG [7,8] (i := 6) (v := ?_) (by kernel_rfl) rfl (by kernel_rfl) (by kernel_rfl) (by kernel_rfl) (by kernel_rfl) (fun _ _ _ h => h) (Or.inl ⟨by rfl, ?_⟩) (fun _ => rfl) (by assumption) ?_
    rotate_left
    · intro w hSw
      (try dsimp only at hSw)
      go_simp
      all_goals with_reducible rfl
    try simp only [Act.put, List.getElem_toArray, List.getElem_cons_succ, List.getElem_cons_zero, List.setIfInBounds_toArray, List.set_cons_zero, List.set_cons_succ]
    refine heldG.one (i := 7) (by kernel_rfl) rfl (fun K hK => ?_)
    refine qite_yes (by rfl) ?_
    gi_wp2_with fail
    refine HR.out.mono ?_
    rintro e Y ⟨hkp, (⟨rfl, hJ3⟩ | ⟨rfl, hJ3⟩)⟩
    all_goals have HKP : Hid (KpU (w.heap.size + 2) X Y) := (KpU.of (Below.drew (Below.refl X.heap.size X))).trans hkp
    all_goals clear hkp
    · have H3 := Lib.hid hJ3
      clear hJ3 HR hy hHeld
      try simp only []
      refine hK.out _ _ (.inr (by decide)) ?_
      clear hK K
      try simp only [Act.put, List.getElem_toArray, List.getElem_cons_succ, List.getElem_cons_zero, List.setIfInBounds_toArray, List.set_cons_zero, List.set_cons_succ]
      refine heldG.one (i := 8) (by kernel_rfl) rfl (fun K hK => ?_)
      refine qite_yes (by rfl) ?_
      gi_wp2_with fail
      refine hK.out _ _ (.inr (by decide)) ?_
      clear hK K
      refine heldG.done (by kernel_rfl) ?_ _
      gi_wp2
      exact ⟨HKP.out.mono (by have := HS.out; omega), H3.out, HKP.out.boxed HB.out.1 (by have := HS.out; omega), HKP.out.boxed HB.out.2.1 (by have := HS.out; omega)⟩
    · have H3 := Lib.hid hJ3
      clear hJ3 HR hy hHeld
      try simp only []
      refine hK.out _ _ (.inr (by decide)) ?_
      clear hK K
      try simp only [Act.put, List.getElem_toArray, List.getElem_cons_succ, List.getElem_cons_zero, List.setIfInBounds_toArray, List.set_cons_zero, List.set_cons_succ]
      refine heldG.one (i := 8) (by kernel_rfl) rfl (fun K hK => ?_)
      refine qite_yes (by rfl) ?_
      gi_wp2_with fail
      refine hK.out _ _ (.inr (by decide)) ?_
      clear hK K
      refine heldG.done (by kernel_rfl) ?_ _
      gi_wp2
      exact ⟨HKP.out.mono (by have := HS.out; omega), rfl, H3.out⟩
  case done =>
    rintro X ⟨hj, b0, bs⟩ hD
    have hj2 := own_on HJ.out hj (Below.drew (Below.refl X.heap.size X))
    obtain ⟨u1, u2, u3⟩ := HU.out len _ hj2
    have c0 := (b0.kept (below_grown (Below.drew (Below.refl X.heap.size X))) (by simp)).cell
    have c1 := u1.cell
    have hp : plc a g len len = ⟨g, 0, none⟩ := by unfold plc; rw [if_neg (by omega)]
    have hy9 := yield_wide0 (m' := 8) (HY.out len () _ hj2 (by omega))
    rw [hp] at hy9
    obtain ⟨fn, tmps, assign, body, hy, hR⟩ := hy9
    try dsimp only at hy
    have HR := Lib.hid hR
    have HD := Lib.hid hD
    clear hR u1 u2 u3 b0 bs hj hj2 hp hD
    gi_wp2_with fail
    refine region_tailN (S := fun Y => Y = X.drew) [4] (by kernel_rfl) rfl (fun hHeld => ?_)
    refine takeG [4] (i := 0) (v := ?_) (by kernel_rfl) rfl (by kernel_rfl) (by kernel_rfl) (by kernel_rfl) (by kernel_rfl) (fun _ _ _ h => h) (Or.inl ⟨by rfl, ?_⟩) (fun _ => rfl) (by assumption) ?_
    rotate_left
    · intro w hSw
      (try dsimp only at hSw)
      go_simp
      all_goals with_reducible rfl
    try simp only [Act.put, List.getElem_toArray, List.getElem_cons_succ, List.getElem_cons_zero, List.setIfInBounds_toArray, List.set_cons_zero, List.set_cons_succ]
    refine takeG [2,3,4] (i := 1) (v := ?_) (by kernel_rfl) rfl (by kernel_rfl) (by kernel_rfl) (by kernel_rfl) (by kernel_rfl) (fun _ _ _ h => h) (Or.inl ⟨by rfl, ?_⟩) (fun _ => rfl) (by assumption) ?_
    rotate_left
    · intro w hSw
      (try dsimp only at hSw)
      go_simp
      all_goals with_reducible rfl
    try simp only [Act.put, List.getElem_toArray, List.getElem_cons_succ, List.getElem_cons_zero, List.setIfInBounds_toArray, List.set_cons_zero, List.set_cons_succ]
    refine takeG [3,4] (i := 2) (v := ?_) (by kernel_rfl) rfl (by kernel_rfl) (by kernel_rfl) (by kernel_rfl) (by kernel_rfl) (fun _ _ _ h => h) (Or.inl ⟨by rfl, ?_⟩) (fun _ => rfl) (by assumption) ?_
    rotate_left
    · intro w hSw
      (try dsimp only at hSw)
      go_simp
      all_goals with_reducible rfl
    try simp only [Act.put, List.getElem_toArray, List.getElem_cons_succ, List.getElem_cons_zero, List.setIfInBounds_toArray, List.set_cons_zero, List.set_cons_succ]
    refine takeG [4] (i := 3) (v := ?_) (by kernel_rfl) rfl (by kernel_rfl) (by kernel_rfl) (by kernel_rfl) (by kernel_rfl) (fun _ _ _ h => h) (Or.inl ⟨by rfl, ?_⟩) (fun _ => rfl) (by assumption) ?_
    rotate_left
    · intro w hSw
      (try dsimp only at hSw)
      go_simp
      all_goals with_reducible rfl
    try simp only [Act.put, List.getElem_toArray, List.getElem_cons_succ, List.getElem_cons_zero, List.setIfInBounds_toArray, List.set_cons_zero, List.set_cons_succ]
    refine heldG.one (i := 4) (by kernel_rfl) rfl (fun K hK => ?_)
    refine qite_yes (by rfl) ?_
    gi_wp2_with fail
    refine HR.out.mono ?_
    rintro e Y ⟨hkp, hJ3⟩
    have HKP : Hid (KpU (w.heap.size + 2) X Y) := (KpU.of (Below.drew (Below.refl X.heap.size X))).trans hkp
    have hD2 : Y.heap[W2.heap.size]? = some (.deferred (some [])) := by
      have hl := (Array.getElem?_eq_some_iff.1 HD.out).1
      exact (HKP.out.same _ (by have := HS.out; omega) hl).trans HD.out
    have H3 : Hid ((e = .returned (.bool true) ∧ J (len + 1) Y) ∨ (e = .returned (.bool false) ∧ Jx Y)) := hJ3
    have hf : Hid (∀ p, J (len + 1) Y ∨ Jx Y → (∃ v : Value, Ending.returned (.tuple #[]) = .returned v) ∧ (J (len + 1) (Y.putObj W2.heap.size p) ∨ Jx (Y.putObj W2.heap.size p))) := fun p h => ⟨⟨_, rfl⟩, h.imp (fun h => HJ.out.putObj p h (by have := HS.out; omega) hD2 rfl) (fun h => HJx.out.putObj (s := ()) p h (by have := HS.out; omega) hD2 rfl)⟩
    clear hkp hJ3 HR hy hHeld
    rcases H3.out with ⟨rfl, h4⟩ | ⟨rfl, h4⟩
    all_goals have H4 := Lib.hid h4
    all_goals clear h4 H3
    all_goals try simp only []
    all_goals refine hK.out _ _ (.inr (by decide)) ?_
    all_goals clear hK K
    all_goals refine heldG.done (by kernel_rfl) ?_ _
    all_goals gi_wp2
    · refine ⟨by simp, .inl ⟨_, _, rfl, run_takeDeferred hD2, ?_⟩⟩
      refine ⟨.tuple #[], ?_, hf.out _ (.inl H4.out)⟩
      simp [results, Try.results38, go_sem]
    · refine ⟨by simp, .inl ⟨_, _, rfl, run_takeDeferred hD2, ?_⟩⟩
      refine ⟨.tuple #[], ?_, hf.out _ (.inr H4.out)⟩
      simp [results, Try.results38, go_sem]
  case stop =>
    rintro c X ⟨rfl, hx⟩ hD
    have HX := Lib.hid (HJx.out.putObj (s := ()) (.deferred none) hx (by have := HS.out; omega) hD rfl)
    clear hx
    gi_wp2
    refine ⟨by simp, .inl ⟨_, _, rfl, run_takeDeferred hD, ?_⟩⟩
    refine ⟨.tuple #[], ?_, ⟨_, rfl⟩, .inr HX.out⟩
    simp [results, Try.results38, go_sem]
end Go.Proofs.Ytcfehddnccdejaa
