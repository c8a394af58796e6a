/- The writer's calls. -/
import Derived.Test.YtnpakjdgcmbcnaaEvN
import Derived.Test.YtnpakjdgcmbcnaaWrJ
import Derived.Test.YtnpakjdgcmbcnaaInts
namespace Go.Proofs.Ytnpakjdgcmbcnaa
open Go.RowKit
open Wir Evn

theorem WMv.cell {T : TypeId} {w w' : World} {p : Nat} {bs : List Nat} {O : Nat → Prop} (h : WMv T w p bs O w') {a : Addr} {v : Value} (hc : w.cell? a = some v) (hb : ¬ O a.block) : w'.cell? a = some v := by
  obtain ⟨O', h1, h2, h3⟩ := h
  exact (World.cell?_of_block (w := w) (h2.block a.block (block_lt_of_cell hc) hb)).trans hc
theorem WMv.size {T : TypeId} {w w' : World} {p : Nat} {bs : List Nat} {O : Nat → Prop} (h : WMv T w p bs O w') : w.heap.size ≤ w'.heap.size := by
  obtain ⟨O', h1, h2, h3⟩ := h
  exact h2.size
theorem WMv.on {T : TypeId} {w w1 w2 : World} {p : Nat} {bs : List Nat} {O : Nat → Prop} (h : WMv T w p bs O w1) (hb : Below w1.heap.size w1 w2) : WMv T w p bs O w2 := by
  obtain ⟨O', h1, h2, h3⟩ := h
  exact ⟨O', h1.below hb, h2.trans (But.of_below (O := O) hb) (fun _ hi => .inl hi), h3⟩
theorem WMv.drew {T : TypeId} {w w1 : World} {p : Nat} {bs : List Nat} {O : Nat → Prop} (h : WMv T w p bs O w1) : WMv T w p bs O w1.drew := h.on (Below.drew (Below.refl _ _))
theorem WMv.alloc {T : TypeId} {w w1 : World} {p : Nat} {bs : List Nat} {O : Nat → Prop} (h : WMv T w p bs O w1) (o : Obj) : WMv T w p bs O (w1.alloc o) := h.on ((Below.refl _ _).alloc (Nat.le_refl _) o)
/-- A number more. -/
theorem WMv.num {T : TypeId} {w w1 : World} {p : Nat} {bs : List Nat} {O : Nat → Prop} (h : WMv T w p bs O w1) (n : Int) (hn : I64 n) (hlen : bs.length ≤ 1000000000) :
    Calls Try.prog 103 #[.pointer (some ⟨p, 0, none⟩), .int .i64 n] w1 fun e w' => e = .returned (.tuple #[]) ∧ WMv T w p (bs ++ dg (cnt n)) O w' := by
  obtain ⟨O', h1, h2, h3⟩ := h
  exact (wnum_any h1 n hn.1 hn.2 hlen).mono fun e w' k => ⟨k.1, WMv.then_ h2 h3 k.2⟩
theorem nb_snoc (ks : List Int) (k : Nat) (h : k < ks.length) : nb (ks.take (k + 1)) = nb (ks.take k) ++ dg (cnt (ks.getD k 0)) := by
  rw [List.take_succ_eq_append_getElem h, nb_append, List.getD_eq_getElem?_getD, List.getElem?_eq_getElem h]
  simp [nb]
/-- What the pointers point to. -/
def Reads (w : World) (b : Nat) (js : List Nat) (vs : List Int) : Prop := vs.length = js.length ∧ ∀ i, i < js.length → w.cell? ⟨b, js.getD i 0, none⟩ = some (.int .i64 (vs.getD i 0))
set_option linter.unusedSimpArgs false in
set_option maxRecDepth 100000 in
set_option maxHeartbeats 3200000 in
theorem wints_any {T : TypeId} {w : World} {p g b n : Nat} {bs : List Nat} {O : Nat → Prop} {js : List Nat} {vs : List Int} (h : Wtr T w p bs O) (hp : Ptrs w g b js) (hv : Reads w b js vs) (hn : js.length = n) (hr : All64 vs) (hb : ¬ O b) (hg : ¬ O g) (hnn : n ≤ 100) (hlen : bs.length ≤ 100000000) :
    Calls Try.prog 100 #[.pointer (some ⟨p, 0, none⟩), .slice (some ⟨g, 0, none⟩) n n] w fun e w' => e = .returned (.tuple #[]) ∧ WMv T w p (bs ++ nb vs) O w' := by
  have HP := Lib.hid (And.intro hp (And.intro hv (And.intro hn (And.intro hr (And.intro hb hg)))))
  have HS := Lib.hid (WMv.start h)
  clear hp hv hn hr hb hg h
  go_enter Try.func100, Try.ntmps100
  go_wp2_with fail
  go_loopw [8] (fun i wx => ∃ k : Nat, k ≤ n ∧ i = .int .i64 (k : Int) ∧ WMv T w p (bs ++ nb (vs.take k)) O wx) (fun i _ => n - (intOf i).toNat)
  case atStart => exact ⟨0, Nat.zero_le _, rfl, by simpa [nb] using HS.out⟩
  case round =>
    obtain ⟨k, hk, rfl, hm⟩ := hrel
    by_cases hlt : k < n
    · have hlt' : (k : Int) < (n : Int) := by omega
      have HL := Lib.hid (And.intro hk hlt)
      have hk' : k < js.length := by have := HP.out.2.2.1; omega
      have hk2 : k < vs.length := by have := HP.out.2.1.1; omega
      have c0 := hm.cell (HP.out.1 k hk') HP.out.2.2.2.2.2
      have d1 := HP.out.2.1.2 k hk'
      have c1 := hm.cell d1 HP.out.2.2.2.2.1
      have HZ := Lib.hid (nb_snoc vs k hk2)
      have hx : I64 (vs.getD k 0) := HP.out.2.2.2.1 _ (by rw [List.getD_eq_getElem?_getD, List.getElem?_eq_getElem hk2]; exact List.getElem_mem _)
      have hl2 : (bs ++ nb (vs.take k)).length ≤ 1000000000 := by
        have h1 := nb_len (vs.take k) (fun y hy => HP.out.2.2.2.1 y (List.mem_of_mem_take hy))
        have h2 := List.length_take_le k vs
        rw [List.length_append]; omega
      generalize vs.getD k 0 = x at c1 d1 HZ hx
      generalize js.getD k 0 = j at c0 c1 d1
      have D1 := Lib.hid d1
      clear d1
      have HB := Lib.hid hm
      have HX := Lib.hid (And.intro hx hl2)
      clear hm hx hl2
      go_wp2_with fail
      refine wp_region_held_drew (S := fun y => y.cell? ⟨b, j, none⟩ = some (.int .i64 x)) (by kernel_rfl) c1 (fun hHeld => ?_)
      refine wpAnyH_take (i := 0) (v := ?_) rfl (by kernel_rfl) (by kernel_rfl) (by kernel_rfl) (fun _ _ _ h => h) (Or.inl ⟨by rfl, ?_⟩) (by assumption) ?_
      rotate_left
      · intro w hSw
        (try dsimp only at hSw)
        go_simp
        all_goals with_reducible rfl
      try simp only [Act.put, List.getElem_toArray, List.getElem_cons_succ, List.getElem_cons_zero, List.setIfInBounds_toArray, List.set_cons_zero, List.set_cons_succ]
      refine wpAnyH_take (i := 1) (v := ?_) rfl (by kernel_rfl) (by kernel_rfl) (by kernel_rfl) (fun _ _ _ h => h) (Or.inl ⟨by rfl, ?_⟩) (by assumption) ?_
      rotate_left
      · intro w hSw
        (try dsimp only at hSw)
        go_simp
        all_goals with_reducible rfl
      try simp only [Act.put, List.getElem_toArray, List.getElem_cons_succ, List.getElem_cons_zero, List.setIfInBounds_toArray, List.set_cons_zero, List.set_cons_succ]
      refine wpAnyH_take (i := 2) (v := ?_) rfl (by kernel_rfl) (by kernel_rfl) (by kernel_rfl) (fun _ _ _ h => h) (Or.inl ⟨by rfl, ?_⟩) (by assumption) ?_
      rotate_left
      · intro w hSw
        (try dsimp only at hSw)
        go_simp
        all_goals with_reducible rfl
      try simp only [Act.put, List.getElem_toArray, List.getElem_cons_succ, List.getElem_cons_zero, List.setIfInBounds_toArray, List.set_cons_zero, List.set_cons_succ]
      refine wpAnyH_take (i := 3) (v := ?_) rfl (by kernel_rfl) (by kernel_rfl) (by kernel_rfl) (fun _ _ _ h => h) (Or.inl ⟨by rfl, ?_⟩) (by assumption) ?_
      rotate_left
      · intro w hSw
        (try dsimp only at hSw)
        go_simp
        all_goals with_reducible rfl
      try simp only [Act.put, List.getElem_toArray, List.getElem_cons_succ, List.getElem_cons_zero, List.setIfInBounds_toArray, List.set_cons_zero, List.set_cons_succ]
      refine wpAnyH_take (i := 4) (v := ?_) rfl (by kernel_rfl) (by kernel_rfl) (by kernel_rfl) (fun _ _ _ h => h) (Or.inl ⟨by rfl, ?_⟩) (by assumption) ?_
      rotate_left
      · intro w hSw
        (try dsimp only at hSw)
        go_simp
        all_goals with_reducible rfl
      try simp only [Act.put, List.getElem_toArray, List.getElem_cons_succ, List.getElem_cons_zero, List.setIfInBounds_toArray, List.set_cons_zero, List.set_cons_succ]
      refine wpAnyH_take (i := 5) (v := ?_) rfl (by kernel_rfl) (by kernel_rfl) (by kernel_rfl) (fun _ _ _ h => h) (Or.inl ⟨by rfl, ?_⟩) (by assumption) ?_
      rotate_left
      · intro w hSw
        (try dsimp only at hSw)
        go_simp
        all_goals with_reducible rfl
      try simp only [Act.put, List.getElem_toArray, List.getElem_cons_succ, List.getElem_cons_zero, List.setIfInBounds_toArray, List.set_cons_zero, List.set_cons_succ]
      refine wpAnyH_ready (rs := [6]) (by kernel_rfl) (by simp) ?_
      refine AllReadyH.cons rfl (fun K hK => ?_) AllReadyH.nil
      rw [if_pos (by rfl)]
      go_simp
      go_at_call 103
      refine (HB.out.drew.num x HX.out.1 HX.out.2).mono ?_
      rintro e w1 ⟨rfl, h1⟩
      have c2 := h1.cell D1.out HP.out.2.2.2.2.1
      have H1 := Lib.hid h1
      clear h1 HB c0 c1
      refine hK.out _ _ ?_ (fun hHeld => ?_)
      · exact c2
      clear hK K
      try simp only [Act.put, List.getElem_toArray, List.getElem_cons_succ, List.getElem_cons_zero, List.setIfInBounds_toArray, List.set_cons_zero, List.set_cons_succ]
      refine wpAnyH_done (by kernel_rfl) ?_ _
      clear hHeld
      go_wp2
      go_roundw
      case rel =>
        refine ⟨k + 1, by have := HL.out; omega, by go_num, ?_⟩
        rw [HZ.out, ← List.append_assoc]
        exact H1.out
      case measure => have := HL.out; simp [intOf]; omega
    · have hlt' : ¬ (k : Int) < (n : Int) := by omega
      have ek : k = n := by omega
      subst ek
      have HB := Lib.hid hm
      clear hm
      go_wp2
      go_end0
      refine ⟨rfl, ?_⟩
      have h9 := HB.out
      rwa [List.take_of_length_le (by have h1 := HP.out.2.2.1; have h2 := HP.out.2.1.1; omega)] at h9
theorem wints_new {T U : TypeId} {w0 w : World} {p b n : Nat} {bs : List Nat} {O : Nat → Prop} {js : List Nat} {vs : List Int} {l : Array Value} (h : WMv T w0 p bs O w) (hv : Reads w0 b js vs) (hb : ¬ O b) (hO : ∀ k, O k → k < w0.heap.size) (hbl : b < w0.heap.size) (hr : All64 vs) (hl : l = (js.map fun j => Value.pointer (some ⟨b, j, none⟩)).toArray) (hn : js.length = n) (hnn : n ≤ 100) (hlen : bs.length ≤ 100000000) :
    Calls Try.prog 100 #[.pointer (some ⟨p, 0, none⟩), .slice (some ⟨w.heap.size, 0, none⟩) n n] (w.alloc (.cells l U)).drew fun e w' => e = .returned (.tuple #[]) ∧ WMv T w0 p (bs ++ nb vs) O w' := by
  have hv2 : Reads (w.alloc (.cells l U)).drew b js vs := ⟨hv.1, fun i hi => ((h.alloc (.cells l U)).drew).cell (hv.2 i hi) hb⟩
  obtain ⟨O', h1, h2, h3⟩ := h
  have hb2 : Below w.heap.size w (w.alloc (.cells l U)).drew := Below.drew ((Below.refl _ _).alloc (Nat.le_refl _) _)
  refine (wints_any (h1.below hb2) (Ptrs.new (heap_alloc_new w (.cells l U)) hl) hv2 hn hr ?_ ?_ hnn hlen).mono ?_
  · intro ho
    rcases h3 b ho with h4 | h4
    · exact hb h4
    · omega
  · intro ho; have := h1.lt _ ho; omega
  · rintro e w' ⟨rfl, k⟩
    exact ⟨rfl, WMv.then_ h2 h3 (WMv.below hb2 k)⟩
set_option linter.unusedSimpArgs false in
set_option maxRecDepth 100000 in
set_option maxHeartbeats 3200000 in
theorem wlongs_any {T : TypeId} {w : World} {p g b n : Nat} {bs : List Nat} {O : Nat → Prop} {js : List Nat} {vs : List Int} (h : Wtr T w p bs O) (hp : Ptrs w g b js) (hv : Reads w b js vs) (hn : js.length = n) (hr : All64 vs) (hb : ¬ O b) (hg : ¬ O g) (hnn : n ≤ 100) (hlen : bs.length ≤ 100000000) :
    Calls Try.prog 101 #[.pointer (some ⟨p, 0, none⟩), .slice (some ⟨g, 0, none⟩) n n] w fun e w' => e = .returned (.tuple #[]) ∧ WMv T w p (bs ++ nb vs) O w' := by
  have HP := Lib.hid (And.intro hp (And.intro hv (And.intro hn (And.intro hr (And.intro hb hg)))))
  have HS := Lib.hid (WMv.start h)
  clear hp hv hn hr hb hg h
  go_enter Try.func101, Try.ntmps101
  go_wp2_with fail
  go_loopw [8] (fun i wx => ∃ k : Nat, k ≤ n ∧ i = .int .i64 (k : Int) ∧ WMv T w p (bs ++ nb (vs.take k)) O wx) (fun i _ => n - (intOf i).toNat)
  case atStart => exact ⟨0, Nat.zero_le _, rfl, by simpa [nb] using HS.out⟩
  case round =>
    obtain ⟨k, hk, rfl, hm⟩ := hrel
    by_cases hlt : k < n
    · have hlt' : (k : Int) < (n : Int) := by omega
      have HL := Lib.hid (And.intro hk hlt)
      have hk' : k < js.length := by have := HP.out.2.2.1; omega
      have hk2 : k < vs.length := by have := HP.out.2.1.1; omega
      have c0 := hm.cell (HP.out.1 k hk') HP.out.2.2.2.2.2
      have d1 := HP.out.2.1.2 k hk'
      have c1 := hm.cell d1 HP.out.2.2.2.2.1
      have HZ := Lib.hid (nb_snoc vs k hk2)
      have hx : I64 (vs.getD k 0) := HP.out.2.2.2.1 _ (by rw [List.getD_eq_getElem?_getD, List.getElem?_eq_getElem hk2]; exact List.getElem_mem _)
      have hl2 : (bs ++ nb (vs.take k)).length ≤ 1000000000 := by
        have h1 := nb_len (vs.take k) (fun y hy => HP.out.2.2.2.1 y (List.mem_of_mem_take hy))
        have h2 := List.length_take_le k vs
        rw [List.length_append]; omega
      generalize vs.getD k 0 = x at c1 d1 HZ hx
      generalize js.getD k 0 = j at c0 c1 d1
      have D1 := Lib.hid d1
      clear d1
      have HB := Lib.hid hm
      have HX := Lib.hid (And.intro hx hl2)
      clear hm hx hl2
      go_wp2_with fail
      refine wp_region_held_drew (S := fun y => y.cell? ⟨b, j, none⟩ = some (.int .i64 x)) (by kernel_rfl) c1 (fun hHeld => ?_)
      refine wpAnyH_take (i := 0) (v := ?_) rfl (by kernel_rfl) (by kernel_rfl) (by kernel_rfl) (fun _ _ _ h => h) (Or.inl ⟨by rfl, ?_⟩) (by assumption) ?_
      rotate_left
      · intro w hSw
        (try dsimp only at hSw)
        go_simp
        all_goals with_reducible rfl
      try simp only [Act.put, List.getElem_toArray, List.getElem_cons_succ, List.getElem_cons_zero, List.setIfInBounds_toArray, List.set_cons_zero, List.set_cons_succ]
      refine wpAnyH_take (i := 1) (v := ?_) rfl (by kernel_rfl) (by kernel_rfl) (by kernel_rfl) (fun _ _ _ h => h) (Or.inl ⟨by rfl, ?_⟩) (by assumption) ?_
      rotate_left
      · intro w hSw
        (try dsimp only at hSw)
        go_simp
        all_goals with_reducible rfl
      try simp only [Act.put, List.getElem_toArray, List.getElem_cons_succ, List.getElem_cons_zero, List.setIfInBounds_toArray, List.set_cons_zero, List.set_cons_succ]
      refine wpAnyH_take (i := 2) (v := ?_) rfl (by kernel_rfl) (by kernel_rfl) (by kernel_rfl) (fun _ _ _ h => h) (Or.inl ⟨by rfl, ?_⟩) (by assumption) ?_
      rotate_left
      · intro w hSw
        (try dsimp only at hSw)
        go_simp
        all_goals with_reducible rfl
      try simp only [Act.put, List.getElem_toArray, List.getElem_cons_succ, List.getElem_cons_zero, List.setIfInBounds_toArray, List.set_cons_zero, List.set_cons_succ]
      refine wpAnyH_take (i := 3) (v := ?_) rfl (by kernel_rfl) (by kernel_rfl) (by kernel_rfl) (fun _ _ _ h => h) (Or.inl ⟨by rfl, ?_⟩) (by assumption) ?_
      rotate_left
      · intro w hSw
        (try dsimp only at hSw)
        go_simp
        all_goals with_reducible rfl
      try simp only [Act.put, List.getElem_toArray, List.getElem_cons_succ, List.getElem_cons_zero, List.setIfInBounds_toArray, List.set_cons_zero, List.set_cons_succ]
      refine wpAnyH_take (i := 4) (v := ?_) rfl (by kernel_rfl) (by kernel_rfl) (by kernel_rfl) (fun _ _ _ h => h) (Or.inl ⟨by rfl, ?_⟩) (by assumption) ?_
      rotate_left
      · intro w hSw
        (try dsimp only at hSw)
        go_simp
        all_goals with_reducible rfl
      try simp only [Act.put, List.getElem_toArray, List.getElem_cons_succ, List.getElem_cons_zero, List.setIfInBounds_toArray, List.set_cons_zero, List.set_cons_succ]
      refine wpAnyH_take (i := 5) (v := ?_) rfl (by kernel_rfl) (by kernel_rfl) (by kernel_rfl) (fun _ _ _ h => h) (Or.inl ⟨by rfl, ?_⟩) (by assumption) ?_
      rotate_left
      · intro w hSw
        (try dsimp only at hSw)
        go_simp
        all_goals with_reducible rfl
      try simp only [Act.put, List.getElem_toArray, List.getElem_cons_succ, List.getElem_cons_zero, List.setIfInBounds_toArray, List.set_cons_zero, List.set_cons_succ]
      refine wpAnyH_ready (rs := [6]) (by kernel_rfl) (by simp) ?_
      refine AllReadyH.cons rfl (fun K hK => ?_) AllReadyH.nil
      rw [if_pos (by rfl)]
      go_simp
      go_at_call 103
      refine (HB.out.drew.num x HX.out.1 HX.out.2).mono ?_
      rintro e w1 ⟨rfl, h1⟩
      have c2 := h1.cell D1.out HP.out.2.2.2.2.1
      have H1 := Lib.hid h1
      clear h1 HB c0 c1
      refine hK.out _ _ ?_ (fun hHeld => ?_)
      · exact c2
      clear hK K
      try simp only [Act.put, List.getElem_toArray, List.getElem_cons_succ, List.getElem_cons_zero, List.setIfInBounds_toArray, List.set_cons_zero, List.set_cons_succ]
      refine wpAnyH_done (by kernel_rfl) ?_ _
      clear hHeld
      go_wp2
      go_roundw
      case rel =>
        refine ⟨k + 1, by have := HL.out; omega, by go_num, ?_⟩
        rw [HZ.out, ← List.append_assoc]
        exact H1.out
      case measure => have := HL.out; simp [intOf]; omega
    · have hlt' : ¬ (k : Int) < (n : Int) := by omega
      have ek : k = n := by omega
      subst ek
      have HB := Lib.hid hm
      clear hm
      go_wp2
      go_end0
      refine ⟨rfl, ?_⟩
      have h9 := HB.out
      rwa [List.take_of_length_le (by have h1 := HP.out.2.2.1; have h2 := HP.out.2.1.1; omega)] at h9
theorem wlongs_new {T U : TypeId} {w0 w : World} {p b n : Nat} {bs : List Nat} {O : Nat → Prop} {js : List Nat} {vs : List Int} {l : Array Value} (h : WMv T w0 p bs O w) (hv : Reads w0 b js vs) (hb : ¬ O b) (hO : ∀ k, O k → k < w0.heap.size) (hbl : b < w0.heap.size) (hr : All64 vs) (hl : l = (js.map fun j => Value.pointer (some ⟨b, j, none⟩)).toArray) (hn : js.length = n) (hnn : n ≤ 100) (hlen : bs.length ≤ 100000000) :
    Calls Try.prog 101 #[.pointer (some ⟨p, 0, none⟩), .slice (some ⟨w.heap.size, 0, none⟩) n n] (w.alloc (.cells l U)).drew fun e w' => e = .returned (.tuple #[]) ∧ WMv T w0 p (bs ++ nb vs) O w' := by
  have hv2 : Reads (w.alloc (.cells l U)).drew b js vs := ⟨hv.1, fun i hi => ((h.alloc (.cells l U)).drew).cell (hv.2 i hi) hb⟩
  obtain ⟨O', h1, h2, h3⟩ := h
  have hb2 : Below w.heap.size w (w.alloc (.cells l U)).drew := Below.drew ((Below.refl _ _).alloc (Nat.le_refl _) _)
  refine (wlongs_any (h1.below hb2) (Ptrs.new (heap_alloc_new w (.cells l U)) hl) hv2 hn hr ?_ ?_ hnn hlen).mono ?_
  · intro ho
    rcases h3 b ho with h4 | h4
    · exact hb h4
    · omega
  · intro ho; have := h1.lt _ ho; omega
  · rintro e w' ⟨rfl, k⟩
    exact ⟨rfl, WMv.then_ h2 h3 (WMv.below hb2 k)⟩
theorem wcount_new {T : TypeId} {w0 w : World} {p : Nat} {bs : List Nat} {O : Nat → Prop} (h : WMv T w0 p bs O w) (n m : Int) (hn : I64 n) (hlen : bs.length ≤ 100000000) :
    Calls Try.prog 99 #[.pointer (some ⟨p, 0, none⟩), .int .i64 n, .int .i64 m] w fun e w' => e = .returned (.int .i64 n) ∧ WMv T w0 p (bs ++ nb [n]) O w' := by
  have C := Lib.hid (h.num n hn (by omega))
  clear h
  go_enter Try.func99, Try.ntmps99
  go_wp2_with fail
  refine C.out.mono ?_
  rintro e w1 ⟨rfl, h1⟩
  have H := Lib.hid h1
  clear h1 C
  go_wp2
  go_ret
  exact ⟨rfl, by simpa [nb] using H.out⟩
theorem wtext_new {T : TypeId} {w0 w : World} {p b j : Nat} {bs : List Nat} {O : Nat → Prop} (h : WMv T w0 p bs O w) (a : Option Addr) (len cap : Nat) (t : List Nat) (hc : w0.cell? ⟨b, j, none⟩ = some (.slice a len cap)) (hb : ¬ O b) (hs : Sl w0 w0.heap.size a len cap t) (hfar : 0 < len → ∀ b o, a = some ⟨b, o, none⟩ → ¬ O b)
    (hlen : bs.length ≤ 100000000) (hl : len ≤ 1000000000) (m : Int) :
    Calls Try.prog 102 #[.pointer (some ⟨p, 0, none⟩), .pointer (some ⟨b, j, none⟩), .int .i64 m] w fun e w' => e = .returned (.tuple #[]) ∧ WMv T w0 p (bs ++ (dg (cnt (len : Int)) ++ t)) O w' := by
  have c0 := h.cell hc hb
  obtain ⟨O', h1, h2, h3⟩ := h
  have hs2 := hs.same_ h2.size (fun hp b o e => h2.block b (by obtain ⟨b', o', e', hlt, _⟩ := hs.at_ hp; rw [e] at e'; injection e' with e'; injection e' with e'; omega) (hfar hp b o e))
  have hfar2 : 0 < len → ∀ b o, a = some ⟨b, o, none⟩ → ¬ O' b := fun hp b o e ho => by
    rcases h3 b ho with h4 | h4
    · exact hfar hp b o e h4
    · obtain ⟨b', o', e', hlt, _⟩ := hs.at_ hp
      rw [e] at e'; injection e' with e'; injection e' with e'; omega
  have C := Lib.hid (wtext_any (h1.below (Below.drew (Below.refl _ _))) a len cap t hs2.drew hfar2 (by omega) hl)
  have HH := Lib.hid (And.intro h2 h3)
  have HC := Lib.hid hc
  have hHB := Lib.hid hb
  clear h1 h2 h3 hs2 hfar2 hs hfar hc hb
  go_enter Try.func102, Try.ntmps102
  go_wp2_with fail
  refine wp_region_held_drew (S := fun y => y.cell? ⟨b, j, none⟩ = some (.slice a len cap)) (by kernel_rfl) c0 (fun hHeld => ?_)
  refine wpAnyH_take (i := 0) (v := ?_) rfl (by kernel_rfl) (by kernel_rfl) (by kernel_rfl) (fun _ _ _ h => h) (Or.inl ⟨by rfl, ?_⟩) (by assumption) ?_
  rotate_left
  · intro w hSw
    (try dsimp only at hSw)
    go_simp
    all_goals with_reducible rfl
  try simp only [Act.put, List.getElem_toArray, List.getElem_cons_succ, List.getElem_cons_zero, List.setIfInBounds_toArray, List.set_cons_zero, List.set_cons_succ]
  refine wpAnyH_take (i := 1) (v := ?_) rfl (by kernel_rfl) (by kernel_rfl) (by kernel_rfl) (fun _ _ _ h => h) (Or.inl ⟨by rfl, ?_⟩) (by assumption) ?_
  rotate_left
  · intro w hSw
    (try dsimp only at hSw)
    go_simp
    all_goals with_reducible rfl
  try simp only [Act.put, List.getElem_toArray, List.getElem_cons_succ, List.getElem_cons_zero, List.setIfInBounds_toArray, List.set_cons_zero, List.set_cons_succ]
  refine wpAnyH_take (i := 2) (v := ?_) rfl (by kernel_rfl) (by kernel_rfl) (by kernel_rfl) (fun _ _ _ h => h) (Or.inl ⟨by rfl, ?_⟩) (by assumption) ?_
  rotate_left
  · intro w hSw
    (try dsimp only at hSw)
    go_simp
    all_goals with_reducible rfl
  try simp only [Act.put, List.getElem_toArray, List.getElem_cons_succ, List.getElem_cons_zero, List.setIfInBounds_toArray, List.set_cons_zero, List.set_cons_succ]
  refine wpAnyH_take (i := 3) (v := ?_) rfl (by kernel_rfl) (by kernel_rfl) (by kernel_rfl) (fun _ _ _ h => h) (Or.inl ⟨by rfl, ?_⟩) (by assumption) ?_
  rotate_left
  · intro w hSw
    (try dsimp only at hSw)
    go_simp
    all_goals with_reducible rfl
  try simp only [Act.put, List.getElem_toArray, List.getElem_cons_succ, List.getElem_cons_zero, List.setIfInBounds_toArray, List.set_cons_zero, List.set_cons_succ]
  refine wpAnyH_take (i := 4) (v := ?_) rfl (by kernel_rfl) (by kernel_rfl) (by kernel_rfl) (fun _ _ _ h => h) (Or.inl ⟨by rfl, ?_⟩) (by assumption) ?_
  rotate_left
  · intro w hSw
    (try dsimp only at hSw)
    go_simp
    all_goals with_reducible rfl
  try simp only [Act.put, List.getElem_toArray, List.getElem_cons_succ, List.getElem_cons_zero, List.setIfInBounds_toArray, List.set_cons_zero, List.set_cons_succ]
  refine wpAnyH_take (i := 5) (v := ?_) rfl (by kernel_rfl) (by kernel_rfl) (by kernel_rfl) (fun _ _ _ h => h) (Or.inl ⟨by rfl, ?_⟩) (by assumption) ?_
  rotate_left
  · intro w hSw
    (try dsimp only at hSw)
    go_simp
    all_goals with_reducible rfl
  try simp only [Act.put, List.getElem_toArray, List.getElem_cons_succ, List.getElem_cons_zero, List.setIfInBounds_toArray, List.set_cons_zero, List.set_cons_succ]
  refine wpAnyH_ready (rs := [6]) (by kernel_rfl) (by simp) ?_
  refine AllReadyH.cons rfl (fun K hK => ?_) AllReadyH.nil
  rw [if_pos (by rfl)]
  go_simp
  go_at_call 104
  refine C.out.mono ?_
  rintro e w1 ⟨rfl, k1⟩
  have h9 := WMv.then_ HH.out.1 HH.out.2 (WMv.below (Below.drew (Below.refl _ _)) k1)
  have c1 := h9.cell HC.out hHB.out
  have H9 := Lib.hid h9
  clear h9 k1 C HH c0
  refine hK.out _ _ ?_ (fun hHeld => ?_)
  · exact c1
  clear hK K
  try simp only [Act.put, List.getElem_toArray, List.getElem_cons_succ, List.getElem_cons_zero, List.setIfInBounds_toArray, List.set_cons_zero, List.set_cons_succ]
  refine wpAnyH_done (by kernel_rfl) ?_ _
  clear hHeld
  go_wp2
  go_end0
  exact ⟨rfl, H9.out⟩
end Go.Proofs.Ytnpakjdgcmbcnaa
