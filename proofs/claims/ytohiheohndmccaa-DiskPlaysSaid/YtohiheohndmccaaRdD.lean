/- Rows of the reference's files: cuts, append, without. -/
import Derived.Test.YtohiheohndmccaaRdC
import Derived.Test.YtohiheohndmccaaTake
import Derived.Laws.OwnMore
namespace Go.Proofs.Ytohiheohndmccaa
open Go.RowKit
open Go.Maps
attribute [local go_sem] Oper.semAt_some

/-- A slice of files whose cells are known. -/
structure RFs (w : World) (a : Option Addr) (n c : Nat) (es : List REnt) : Prop where
  len : es.length = n
  le : n ≤ c
  max : c ≤ maxLen
  none_ : a = none → n = 0 ∧ c = 0
  at_ : a ≠ none → ∃ g o, a = some ⟨g, o, none⟩ ∧ g < w.heap.size ∧ ∀ j u, (rcells es)[j]? = some u → w.cell? ⟨g, o + j, none⟩ = some u
/-- v owns these files. -/
def OwnFl (w : World) (base : Nat) (v : Value) (es : List REnt) : Prop := w.ownsRow base 60 3 v es.length (rcells es)
theorem info_file : (Try.prog.info? 60).map (fun i => (i.zero, i.size, i.bytes)) = some (some (.agg #[.string ⟨#[]⟩, .slice none 0 0, .int .i64 0]), 3, 48) := by kernel_rfl
theorem rcells_one (es : List REnt) : ∀ u ∈ rcells es, u.oneCell' = true := by
  intro u hu
  obtain ⟨e, _, he⟩ := List.mem_flatMap.1 hu
  simp [REnt.cells] at he
  rcases he with rfl | rfl | rfl <;> rfl
theorem OwnFl.rfs {w : World} {base : Nat} {a : Option Addr} {n c : Nat} {es : List REnt} (h : OwnFl w base (.slice a n c) es) : RFs w a n c es := by
  rcases h.2 with ⟨h1, h0⟩ | ⟨g, cap, cur, e, h1, h2, hn, hc, hsz, htk⟩
  · injection h1 with e1 e2 e3
    subst e1 e2 e3
    exact ⟨h0, Nat.le_refl _, by simp [maxLen], fun _ => ⟨rfl, rfl⟩, fun hne => absurd rfl hne⟩
  · injection e with e1 e2 e3
    subst e1 e2 e3
    refine ⟨rfl, hn, hc, (fun e => by cases e), fun _ => ⟨g, 0, rfl, lt_of_heap h2, fun j u hj => ?_⟩⟩
    have hj' := (List.getElem?_eq_some_iff.1 hj).1
    rw [rcells_len] at hj'
    rw [Nat.zero_add, World.ownsRow.cellAt h j (by omega), hj]
theorem OwnFl.form {w : World} {base : Nat} {v : Value} {es : List REnt} (h : OwnFl w base v es) : ∃ a c, v = .slice a es.length c := by
  rcases h.2 with ⟨h1, h0⟩ | ⟨g, cap, cur, e, _⟩
  · exact ⟨none, 0, by rw [h1, h0]⟩
  · exact ⟨_, cap, e⟩
theorem OwnFl.at_base {w : World} {base : Nat} {v : Value} {es : List REnt} (h : OwnFl w base v es) {b : Nat} (hb : v.ownBlock = some b) : base ≤ b ∧ b < w.heap.size := by
  rcases h.2 with ⟨rfl, _⟩ | ⟨g, cap, cur, rfl, h2, h3, _⟩
  · cases hb
  · injection hb with hb
    subst hb
    exact ⟨h2, lt_of_heap h3⟩
theorem RFs.below {w w' : World} {a : Option Addr} {n c : Nat} {es : List REnt} (h : RFs w a n c es) (hb : Below w.heap.size w w') : RFs w' a n c es :=
  ⟨h.len, h.le, h.max, h.none_, fun hne => by
    obtain ⟨g, o, e, hlt, hc⟩ := h.at_ hne
    exact ⟨g, o, e, Nat.lt_of_lt_of_le hlt hb.size, fun j u hj => (hb.cell (p := ⟨g, o + j, none⟩) hlt).trans (hc j u hj)⟩⟩
theorem RFs.take {w : World} {a : Option Addr} {n c : Nat} {es : List REnt} (h : RFs w a n c es) {k : Nat} (hk : k ≤ n) : RFs w a k c (es.take k) :=
  ⟨by rw [List.length_take, h.len]; omega, Nat.le_trans hk h.le, h.max, fun e => by have := h.none_ e; omega, fun hne => by
    obtain ⟨g, o, e, hlt, hc⟩ := h.at_ hne
    refine ⟨g, o, e, hlt, fun j u hj => hc j u ?_⟩
    have e2 : rcells es = rcells (es.take k) ++ rcells (es.drop k) := by rw [← rcells_append, List.take_append_drop]
    rw [e2, List.getElem?_append_left (List.getElem?_eq_some_iff.1 hj).1]
    exact hj⟩
def fromA3 (a : Option Addr) (c k : Nat) : Option Addr := if c = k then a else a.map (·.add (k * 3))
theorem RFs.from_ {w : World} {a : Option Addr} {n c : Nat} {es : List REnt} (h : RFs w a n c es) {k : Nat} (hk : k ≤ n) : RFs w (fromA3 a c k) (n - k) (c - k) (es.drop k) := by
  have hle := h.le
  refine ⟨by rw [List.length_drop, h.len], by omega, by have := h.max; omega, fun e => ?_, fun hne => ?_⟩
  · unfold fromA3 at e
    split at e
    · have := h.none_ e; omega
    · cases a with
      | none => have := h.none_ rfl; omega
      | some ad => simp at e
  · by_cases hck : c = k
    · unfold fromA3 at hne ⊢
      rw [if_pos hck] at hne ⊢
      obtain ⟨g, o, e, hlt, _⟩ := h.at_ hne
      refine ⟨g, o, e, hlt, fun j u hj => ?_⟩
      rw [List.drop_of_length_le (by rw [h.len]; omega)] at hj
      simp [rcells] at hj
    · unfold fromA3 at hne ⊢
      rw [if_neg hck] at hne ⊢
      have hne' : a ≠ none := fun e => hne (by rw [e]; rfl)
      obtain ⟨g, o, e, hlt, hc⟩ := h.at_ hne'
      subst e
      refine ⟨g, o + k * 3, by show some (Addr.add ⟨g, o, none⟩ (k * 3)) = _; rw [Addr.add_mid], hlt, fun j u hj => ?_⟩
      rw [Nat.add_assoc]
      refine hc (k * 3 + j) u ?_
      have e2 : rcells es = rcells (es.take k) ++ rcells (es.drop k) := by rw [← rcells_append, List.take_append_drop]
      have e3 : (rcells (es.take k)).length = k * 3 := by rw [rcells_len, List.length_take, h.len, Nat.min_eq_left hk]
      rw [e2, List.getElem?_append_right (by omega), e3, Nat.add_sub_cancel_left]
      exact hj
section
variable {P : Program} (t e : TypeId) (ht : P.underlying t = some (.slice e)) {z : Value} {by_ : Nat} (hi : (P.info? e).map (fun i => (i.zero, i.size, i.bytes)) = some (some z, 3, by_))
include ht hi
theorem run_cut3_to (a : Option Addr) (len cap k : Nat) (hk : k ≤ cap) (w : World) :
    (Instr.slice t (.slice a len cap) none (some (.int .i64 (k : Int))) none).run P w = .ok (.slice a k cap) w := by
  obtain ⟨i, hi, _, hz1, _⟩ := info_parts hi
  have hs : (sizeOf e).run P w = .ok 3 w := by simp [sizeOf, typeInfo, hi, hz1]
  have ht' : P.underlying t = some (.slice (P.elem t)) := by simp [Program.elem, ht]
  have he : P.elem t = e := by simp [Program.elem, ht]
  rw [run_slice_h w t _ _ _ ht' .i64 _ (by omega) (by omega), he, hs]
  have ha : a.map (fun x => x.add 0) = a := by cases a <;> simp [Addr.add]
  simp [Result.andThen, sliced, ha]
theorem run_cut3_from (a : Option Addr) (len cap k : Nat) (hk : k ≤ len) (w : World) :
    (Instr.slice t (.slice a len cap) (some (.int .i64 (k : Int))) none none).run P w = .ok (.slice (fromA3 a cap k) (len - k) (cap - k)) w := by
  obtain ⟨i, hi, _, hz1, _⟩ := info_parts hi
  have hs : (sizeOf e).run P w = .ok 3 w := by simp [sizeOf, typeInfo, hi, hz1]
  have ht' : P.underlying t = some (.slice (P.elem t)) := by simp [Program.elem, ht]
  have he : P.elem t = e := by simp [Program.elem, ht]
  rw [run_slice_l w t _ _ _ ht' .i64 _ (by omega) (by omega), he, hs]
  simp [Result.andThen, sliced, fromA3]
end
/-- 'append(v, x...)' of files onto files of the call's own, at a step of a region that draws its order. -/
theorem wp_append_files {w : World} {o : Oper} {a : Act} {K : Act → World → Prop} {Q : Exit → Act → World → Prop} (s x : Operand)
    (ho : o.op = .call { callee := .builtin .append, args := #[s, x], argTypes := #[52, 52] })
    (base : Nat) (v : Value) (es : List REnt) (hs : a.eval s = v) (hown : OwnFl w base v es)
    (A : Option Addr) (m c : Nat) (es2 : List REnt) (hx : a.eval x = .slice A m c) (hc : RFs w A m c es2)
    (hbytes : es.length + m ≤ 1000) (hbase : base ≤ w.heap.size)
    (h : ∀ v' w', OwnFl w' base v' (es ++ es2) → w.grownBy w' v.ownBlock → K (a.put o.dst v') w') :
    o.wp Try.prog a w K Q := by
  obtain ⟨i, hi, hz0, hz1, hz2⟩ := info_parts info_file
  have hl2 := hc.len
  have hfin : ∀ v' w', w'.ownsRow base 60 3 v' (es.length + m) (rcells es ++ rcells es2) → OwnFl w' base v' (es ++ es2) := fun v' w' h1 => by
    unfold OwnFl
    rw [rcells_append, List.length_append, hl2]
    exact h1
  cases A with
  | none =>
    obtain ⟨hm0, hc0⟩ := hc.none_ rfl
    subst hc0 hm0
    have hcs : es2 = [] := List.eq_nil_of_length_eq_zero hl2
    subst hcs
    have hrun := run_append_owned_none (P := Try.prog) (w := w) base 52 o.type 60 i 3 Try.underlying52 hi v es.length (rcells es) hown
    unfold Oper.wp
    simp [execOp, ho, resolve, invoke, builtin, hs, hx, hrun, Result.andThen]
    exact h v w (by simpa using hown) (World.grownBy.refl w _)
  | some ad =>
    obtain ⟨g, off, e, _, hcc⟩ := hc.at_ (by simp)
    injection e with e
    subst e
    obtain ⟨v', w', hr, h1, h2, _⟩ := run_append_own (P := Try.prog) w base 52 o.type 60 i _ 3 48 Try.underlying52 hi hz0 hz1 hz2 rfl (by decide) v es.length (rcells es) hown ⟨g, off, none⟩ m c (rcells es2) (by rw [rcells_len, hl2])
      (fun j u hj => by rw [Addr.add_mid]; exact hcc j u hj) (rcells_one es2) (by unfold maxLen; omega) (by omega) hbase
    unfold Oper.wp execOp
    simp only [ho, resolve, invoke, builtin, Sem.run_bind, Sem.run_pure, Result.andThen_ok, List.map_toArray, List.map_cons, List.map_nil, hs, hx, hr]
    exact h v' w' (hfin _ _ h1) h2
theorem OwnFl.none_lit (w : World) (base : Nat) (hb : base ≤ w.heap.size) : OwnFl (w.alloc (.cells #[] 60)) base (.slice (some ⟨w.heap.size, 0, none⟩) 0 0) [] := by
  have := World.ownsRow_lit (base := base) (e := 60) (size := 3) w #[] 0 hb (by simp [maxLen]) (by simp)
  simpa [OwnFl, rcells] using this
set_option linter.unusedSimpArgs false in
set_option maxRecDepth 100000 in
set_option maxHeartbeats 3200000 in
/-- The files but for one. -/
theorem rwithout_any (es : List REnt) (a : Option Addr) (n c i : Nat) (w : World) (h : RFs w a n c es) (hi : i < n) (hn : n ≤ 64) :
    Calls Try.prog 48 #[.slice a n c, .int .i64 (i : Int)] w fun e w' => ∃ v, e = .returned v ∧ OwnFl w' w.heap.size v (es.take i ++ es.drop (i + 1)) ∧ Below w.heap.size w w' := by
  have hcap := h.le
  obtain ⟨p, hp⟩ : ∃ p, p = i + 1 := ⟨_, rfl⟩
  have w8 : IntKind.i64.wrap ((i : Int) + 1) = (p : Int) := by rw [IntKind.wrap_i64]; omega
  have kc1 : ∀ x, (Instr.slice 52 (.slice a n c) none (some (.int .i64 (i : Int))) none).run Try.prog x = .ok (.slice a i c) x := run_cut3_to (P := Try.prog) 52 60 Try.underlying52 info_file a n c i (by omega)
  obtain ⟨a2, ha2⟩ : ∃ a2, a2 = fromA3 a c p := ⟨_, rfl⟩
  obtain ⟨n2, hn2⟩ : ∃ n2, n2 = n - p := ⟨_, rfl⟩
  obtain ⟨c2, hc2⟩ : ∃ c2, c2 = c - p := ⟨_, rfl⟩
  have kc2 : ∀ x, (Instr.slice 52 (.slice a n c) (some (.int .i64 (p : Int))) none none).run Try.prog x = .ok (.slice a2 n2 c2) x := fun x => by
    have := run_cut3_from (P := Try.prog) 52 60 Try.underlying52 info_file a n c p (by omega) x
    rw [this, ha2, hn2, hc2]
  have HA := Lib.hid (h.take (k := i) (by omega))
  have HB0 := h.from_ (k := p) (by omega)
  rw [← ha2, ← hn2, ← hc2] at HB0
  have HB := Lib.hid HB0
  have hl1 : (es.take i).length = i := by rw [List.length_take, h.len]; omega
  have hn3 : i + n2 ≤ 64 := by omega
  rw [← hp]
  have HP := Lib.hid (And.intro hl1 hn3)
  clear h HB0 ha2 hn2 hc2 hp hl1
  go_enter Try.func48, Try.ntmps48
  go_upto_region 1 with fail
  refine wp_region_held_drew (S := fun x => Below w.heap.size w x) (by kernel_rfl) (Below.drew (Below.refl _ _)) (fun hHeld => ?_)
  refine wpAnyH_take (i := 1) (v := ?_) rfl (by kernel_rfl) (by kernel_rfl) (by kernel_rfl) (fun _ _ _ h => h) (Or.inl ⟨by rfl, ?_⟩) (by assumption) ?_
  rotate_left
  · intro w hSw
    (try dsimp only at hSw)
    go_simp
    all_goals with_reducible rfl
  try simp only [Act.put, List.getElem_toArray, List.getElem_cons_succ, List.getElem_cons_zero, List.setIfInBounds_toArray, List.set_cons_zero, List.set_cons_succ]
  refine wpAnyH_take (i := 2) (v := ?_) rfl (by kernel_rfl) (by kernel_rfl) (by kernel_rfl) (fun _ _ _ h => h) (Or.inl ⟨by rfl, ?_⟩) (by assumption) ?_
  rotate_left
  · intro w hSw
    (try dsimp only at hSw)
    go_simp
    all_goals with_reducible rfl
  try simp only [Act.put, List.getElem_toArray, List.getElem_cons_succ, List.getElem_cons_zero, List.setIfInBounds_toArray, List.set_cons_zero, List.set_cons_succ]
  refine wpAnyH_take (i := 3) (v := ?_) rfl (by kernel_rfl) (by kernel_rfl) (by kernel_rfl) (fun _ _ _ h => h) (Or.inl ⟨by rfl, ?_⟩) (by assumption) ?_
  rotate_left
  · intro w hSw
    (try dsimp only at hSw)
    go_simp
    all_goals with_reducible rfl
  try simp only [Act.put, List.getElem_toArray, List.getElem_cons_succ, List.getElem_cons_zero, List.setIfInBounds_toArray, List.set_cons_zero, List.set_cons_succ]
  refine wpAnyH_take (i := 5) (v := ?_) rfl (by kernel_rfl) (by kernel_rfl) (by kernel_rfl) (fun _ _ _ h => h) (Or.inl ⟨by rfl, ?_⟩) (by assumption) ?_
  rotate_left
  · intro w hSw
    (try dsimp only at hSw)
    go_simp
    all_goals with_reducible rfl
  try simp only [Act.put, List.getElem_toArray, List.getElem_cons_succ, List.getElem_cons_zero, List.setIfInBounds_toArray, List.set_cons_zero, List.set_cons_succ]
  refine wpAnyH_take (i := 6) (v := ?_) rfl (by kernel_rfl) (by kernel_rfl) (by kernel_rfl) (fun _ _ _ h => h) (Or.inl ⟨by rfl, ?_⟩) (by assumption) ?_
  rotate_left
  · intro w hSw
    (try dsimp only at hSw)
    go_simp
    all_goals with_reducible rfl
  try simp only [Act.put, List.getElem_toArray, List.getElem_cons_succ, List.getElem_cons_zero, List.setIfInBounds_toArray, List.set_cons_zero, List.set_cons_succ]
  refine wpAnyH_take (i := 7) (v := ?_) rfl (by kernel_rfl) (by kernel_rfl) (by kernel_rfl) (fun _ _ _ h => h) (Or.inl ⟨by rfl, ?_⟩) (by assumption) ?_
  rotate_left
  · intro w hSw
    (try dsimp only at hSw)
    go_simp
    all_goals with_reducible rfl
  try simp only [Act.put, List.getElem_toArray, List.getElem_cons_succ, List.getElem_cons_zero, List.setIfInBounds_toArray, List.set_cons_zero, List.set_cons_succ]
  refine wpAnyH_take (i := 8) (v := ?_) rfl (by kernel_rfl) (by kernel_rfl) (by kernel_rfl) (fun _ _ _ h => h) (Or.inl ⟨by rfl, ?_⟩) (by assumption) ?_
  rotate_left
  · intro w hSw
    (try dsimp only at hSw)
    go_simp
    all_goals with_reducible rfl
  try simp only [Act.put, List.getElem_toArray, List.getElem_cons_succ, List.getElem_cons_zero, List.setIfInBounds_toArray, List.set_cons_zero, List.set_cons_succ]
  refine wpAnyH_ready (rs := [0]) (by kernel_rfl) (by simp) ?_
  refine AllReadyH.cons rfl (fun K hK => ?_) AllReadyH.nil
  go_simp
  have hB1 : Below w.heap.size w (w.drew.alloc (.cells #[] 60)) := (Below.drew (Below.refl _ _)).alloc (Nat.le_refl _) _
  have hown1 : OwnFl (w.drew.alloc (.cells #[] 60)) w.heap.size (.slice (some ⟨w.heap.size, 0, none⟩) 0 0) [] := OwnFl.none_lit w.drew w.heap.size (Nat.le_refl _)
  refine hK.out _ _ ?_ (fun hHeld => ?_)
  · exact hB1
  clear hK K
  try simp only [Act.put, List.getElem_toArray, List.getElem_cons_succ, List.getElem_cons_zero, List.setIfInBounds_toArray, List.set_cons_zero, List.set_cons_succ]
  refine wpAnyH_ready (rs := [4]) (by kernel_rfl) (by simp) ?_
  refine AllReadyH.cons rfl (fun K hK => ?_) AllReadyH.nil
  refine wp_append_files (.tmp 5) (.tmp 8) rfl w.heap.size (.slice (some ⟨w.heap.size, 0, none⟩) 0 0) [] rfl hown1 a i c (es.take i) rfl (HA.out.below hB1) (by simp; have := HP.out.2; omega) hB1.size ?_
  intro v2 w2 ho2 hg2
  rw [List.nil_append] at ho2
  have hB2 : Below w.heap.size w w2 := hB1.grown hg2 hB1.size (fun k hk => (hown1.at_base hk).1)
  refine hK.out _ _ ?_ (fun hHeld => ?_)
  · exact hB2
  clear hK K
  try simp only [Act.put, List.getElem_toArray, List.getElem_cons_succ, List.getElem_cons_zero, List.setIfInBounds_toArray, List.set_cons_zero, List.set_cons_succ]
  refine wpAnyH_ready (rs := [9]) (by kernel_rfl) (by simp) ?_
  refine AllReadyH.cons rfl (fun K hK => ?_) AllReadyH.nil
  refine wp_append_files (.tmp 9) (.tmp 13) rfl w.heap.size v2 (es.take i) rfl ho2 a2 n2 c2 (es.drop p) rfl (HB.out.below hB2) (by have := HP.out; omega) hB2.size ?_
  intro v3 w3 ho3 hg3
  have hB3 : Below w.heap.size w w3 := hB2.grown hg3 hB2.size (fun k hk => (ho2.at_base hk).1)
  refine hK.out _ _ ?_ (fun hHeld => ?_)
  · exact hB3
  clear hK K
  try simp only [Act.put, List.getElem_toArray, List.getElem_cons_succ, List.getElem_cons_zero, List.setIfInBounds_toArray, List.set_cons_zero, List.set_cons_succ]
  refine wpAnyH_take (i := 10) (v := ?_) rfl (by kernel_rfl) (by kernel_rfl) (by kernel_rfl) (fun _ _ _ h => h) (Or.inl ⟨by rfl, ?_⟩) (by assumption) ?_
  rotate_left
  · intro w hSw
    (try dsimp only at hSw)
    go_simp
    all_goals with_reducible rfl
  try simp only [Act.put, List.getElem_toArray, List.getElem_cons_succ, List.getElem_cons_zero, List.setIfInBounds_toArray, List.set_cons_zero, List.set_cons_succ]
  refine wpAnyH_done (by kernel_rfl) ?_ _
  clear hHeld
  go_wp2
  go_ret
  exact ⟨v3, rfl, ho3, hB3⟩
end Go.Proofs.Ytohiheohndmccaa
