/- A region that draws its order and ends in one operation that waits for all others: behind that one nothing more is asked of the world. -/
import Derived.Test.YtcfehddnccdejaaTake
import Derived.StillTail
namespace Go.Proofs.Ytcfehddnccdejaa
set_option linter.unusedSimpArgs false
set_option linter.unusedVariables false
section
variable {P : Program} {ops : Array Oper} {Q : Exit → Act → World → Prop} {md : Region.Mode} {S : World → Prop} {τ : Nat}

/-- Whatever order is picked from here on; S holds behind each operation, but for number τ. -/
def heldT (P : Program) (md : Region.Mode) (ops : Array Oper) (Q : Exit → Act → World → Prop) (S : World → Prop) (τ : Nat) : Nat → Array Bool → Act → World → Prop
  | 0, L, a, w => Region.ready md ops L = [] ∧ Q .normal a w
  | fuel + 1, L, a, w => (Region.ready md ops L = [] → Q .normal a w) ∧ ∀ i ∈ Region.ready md ops L, wpOp P ops Q i (fun b u => (S u ∨ i = τ) ∧ heldT P md ops Q S τ fuel (L.setIfInBounds i true) b u) a w
theorem heldT.any : ∀ (fuel : Nat) (L : Array Bool) (a : Act) (w : World), heldT P md ops Q S τ fuel L a w → wpAny P md ops Q fuel L a w
  | 0, _, _, _, h => h
  | fuel + 1, _, _, _, h => ⟨h.1, fun i hi => wpOp_mono (fun a' w' h' => heldT.any fuel _ a' w' h'.2) (h.2 i hi)⟩
theorem region_tail (S : World → Prop) (τ : Nat) {id : Nat} {a : Act} {w : World} (hm : P.follows .mixedOrders = true) (hS : S w.drew)
    (h : S w.drew → heldT P .any ops Q S τ ops.size (Array.replicate ops.size false) a w.drew) : (Code.region id ops true).wp P Q a w :=
  wp_region_any hm (heldT.any _ _ _ _ (h hS))
theorem heldT.done {L : Array Bool} {a : Act} {w : World} (hr : Region.ready md ops L = []) (h : Q .normal a w) : ∀ fuel, heldT P md ops Q S τ fuel L a w
  | 0 => ⟨hr, h⟩
  | _ + 1 => ⟨fun _ => h, by rw [hr]; simp⟩
def ReadyT (P : Program) (md : Region.Mode) (ops : Array Oper) (Q : Exit → Act → World → Prop) (S : World → Prop) (τ fuel : Nat) (L : Array Bool) (a : Act) (w : World) (rs : List Nat) : Prop :=
  ∀ i ∈ rs, wpOp P ops Q i (fun b u => (S u ∨ i = τ) ∧ heldT P md ops Q S τ fuel (L.setIfInBounds i true) b u) a w
theorem ReadyT.nil {fuel : Nat} {L : Array Bool} {a : Act} {w : World} : ReadyT P md ops Q S τ fuel L a w [] := fun _ h => by cases h
theorem ReadyT.cons {fuel : Nat} {L : Array Bool} {a : Act} {w : World} {i : Nat} {o : Oper} {rs : List Nat} (ho : ops[i]? = some o)
    (h : ∀ K' : Act → World → Prop, Shut (∀ a w, (S w ∨ i = τ) → heldT P md ops Q S τ fuel (L.setIfInBounds i true) a w → K' a w) → if Region.wanted o (yielded ops a.tmps) = true then Oper.wp P o a w K' Q else K' (a.put o.dst undef) w)
    (hs : ReadyT P md ops Q S τ fuel L a w rs) : ReadyT P md ops Q S τ fuel L a w (i :: rs) := fun j hj => by
  rcases List.mem_cons.1 hj with rfl | hj
  · exact wpOp_step ho (fun K' hK => h K' (fun a w hS hW => hK a w ⟨hS, hW⟩))
  · exact hs j hj
theorem heldT.ready {rs : List Nat} {fuel : Nat} {L : Array Bool} {a : Act} {w : World} (hr : Region.ready md ops L = rs) (hne : rs ≠ [])
    (h : ReadyT P md ops Q S τ fuel L a w rs) : heldT P md ops Q S τ (fuel + 1) L a w := ⟨fun h0 => absurd (hr ▸ h0) hne, hr ▸ h⟩

theorem takeT_go {i : Nat} {x : Oper} {v : Value} (hi : ops[i]? = some x) (hsel : ∀ (j : Nat) (o : Oper) cs b, ops[j]? = some o → o.op ≠ .select cs b) (hQ : ∀ c a w, Q (.panic c) (a.put x.dst v) w → Q (.panic c) a w) (hτ : Region.waitsFor md ops τ i = true) (hne9 : i ≠ τ) :
    ∀ (fuel : Nat) (L : Array Bool) (a : Act) (w : World), (∀ j y, ops[j]? = some y → j ≠ i → L.getD j true = false → (∀ e ∈ y.after, Region.binds md e = true → e.on ≠ i) → x.apart ops y = true) →
      i ∈ Region.ready md ops L → GivesIf P ops S x v a → S w → heldT P md ops Q S τ fuel (L.setIfInBounds i true) (a.put x.dst v) w → heldT P md ops Q S τ (fuel + 1) L a w := by
  intro fuel
  induction fuel with
  | zero =>
    intro L a w _ hr hx hS H
    refine ⟨fun h0 => absurd hr (by rw [h0]; simp), fun j hj => ?_⟩
    rcases Nat.decEq j i with hne | heq
    · exact absurd (ready_mono hj hne) (by rw [H.1]; simp)
    · subst heq; exact hx.op hi hS ⟨.inl hS, H⟩
  | succ fuel ih =>
    intro L a w hfree hr hx hS H
    refine ⟨fun h0 => absurd hr (by rw [h0]; simp), fun j hj => ?_⟩
    rcases Nat.decEq j i with hne | heq
    · obtain ⟨hLj, y, hy, hall⟩ := mem_ready.1 hj
      have hLi := (mem_ready.1 hr).1
      have hno : ∀ e ∈ y.after, Region.binds md e = true → e.on ≠ i := fun e he hb heq => by
        have h1 := hall e he hb
        rw [heq] at h1
        by_cases hlt : i < L.size
        · simp [hlt] at hLi h1; rw [hLi] at h1; cases h1
        · simp [Array.getElem?_eq_none (Nat.le_of_not_lt hlt)] at h1
      have hjτ : j ≠ τ := fun hjt => by
        obtain ⟨oj, ho, e, he, hb, hon⟩ := Region.waitsFor_spec hτ
        rw [← hjt, hy] at ho
        injection ho with ho
        subst ho
        exact hno e he hb hon
      have h2 := GivesIf.pass hy (hfree j y hy hne hLj hno) (fun cs b => hsel i x cs b hi) (fun cs b => hsel j y cs b hy) hQ hx (H.2 j (ready_mono hj hne))
      refine wpOp_mono (fun b u hb => ⟨hb.2.1, ih _ b u ?_ (ready_mono hr (Ne.symm hne)) hb.1 (hb.2.1.resolve_right hjτ) ?_⟩) h2
      · intro k z hz hki hun hnz
        refine hfree k z hz hki ?_ hnz
        rcases Nat.decEq j k with hjk | hjk
        · rw [getD_set_ne true hjk] at hun; exact hun
        · subst hjk; exact hLj
      · rw [Array.setIfInBounds_comm _ _ hne]; exact hb.2.2
    · subst heq; exact hx.op hi hS ⟨.inl hS, H⟩
theorem takeT2_go {i m : Nat} {x : Oper} {v : Value} (hi : ops[i]? = some x) (hsel : ∀ (j : Nat) (o : Oper) cs b, ops[j]? = some o → o.op ≠ .select cs b) (hQ : ∀ c a w, Q (.panic c) (a.put x.dst v) w → Q (.panic c) a w) (hτ : Region.waitsFor md ops τ m = true) (hmi : Region.waitsFor md ops m i = true) (hne9 : i ≠ τ) :
    ∀ (fuel : Nat) (L : Array Bool) (a : Act) (w : World), (∀ j y, ops[j]? = some y → j ≠ i → L.getD j true = false → (∀ e ∈ y.after, Region.binds md e = true → e.on ≠ i) → x.apart ops y = true) →
      L.getD m true = false → i ∈ Region.ready md ops L → GivesIf P ops S x v a → S w → heldT P md ops Q S τ fuel (L.setIfInBounds i true) (a.put x.dst v) w → heldT P md ops Q S τ (fuel + 1) L a w := by
  intro fuel
  induction fuel with
  | zero =>
    intro L a w _ hm hr hx hS H
    refine ⟨fun h0 => absurd hr (by rw [h0]; simp), fun j hj => ?_⟩
    rcases Nat.decEq j i with hne | heq
    · exact absurd (ready_mono hj hne) (by rw [H.1]; simp)
    · subst heq; exact hx.op hi hS ⟨.inl hS, H⟩
  | succ fuel ih =>
    intro L a w hfree hm hr hx hS H
    refine ⟨fun h0 => absurd hr (by rw [h0]; simp), fun j hj => ?_⟩
    rcases Nat.decEq j i with hne | heq
    · obtain ⟨hLj, y, hy, hall⟩ := mem_ready.1 hj
      have hLi := (mem_ready.1 hr).1
      have hno : ∀ e ∈ y.after, Region.binds md e = true → e.on ≠ i := fun e he hb heq => by
        have h1 := hall e he hb
        rw [heq] at h1
        by_cases hlt : i < L.size
        · simp [hlt] at hLi h1; rw [hLi] at h1; cases h1
        · simp [Array.getElem?_eq_none (Nat.le_of_not_lt hlt)] at h1
      have hjm : j ≠ m := fun hjt => by
        obtain ⟨oj, ho, e, he, hb, hon⟩ := Region.waitsFor_spec hmi
        rw [← hjt, hy] at ho
        injection ho with ho
        subst ho
        exact hno e he hb hon
      have hjτ : j ≠ τ := fun hjt => by
        obtain ⟨oj, ho, e, he, hb, hon⟩ := Region.waitsFor_spec hτ
        rw [← hjt, hy] at ho
        injection ho with ho
        subst ho
        have h1 := hall e he hb
        rw [hon] at h1
        by_cases hlt : m < L.size
        · simp [hlt] at hm h1; rw [hm] at h1; cases h1
        · simp [Array.getElem?_eq_none (Nat.le_of_not_lt hlt)] at h1
      have h2 := GivesIf.pass hy (hfree j y hy hne hLj hno) (fun cs b => hsel i x cs b hi) (fun cs b => hsel j y cs b hy) hQ hx (H.2 j (ready_mono hj hne))
      refine wpOp_mono (fun b u hb => ⟨hb.2.1, ih _ b u ?_ (by rw [getD_set_ne true hjm]; exact hm) (ready_mono hr (Ne.symm hne)) hb.1 (hb.2.1.resolve_right hjτ) ?_⟩) h2
      · intro k z hz hki hun hnz
        refine hfree k z hz hki ?_ hnz
        rcases Nat.decEq j k with hjk | hjk
        · rw [getD_set_ne true hjk] at hun; exact hun
        · subst hjk; exact hLj
      · rw [Array.setIfInBounds_comm _ _ hne]; exact hb.2.2
    · subst heq; exact hx.op hi hS ⟨.inl hS, H⟩
theorem GivesIf.yields {x : Oper} {v : Value} {a : Act} (h : YieldsIf P ops S x v a) : GivesIf P ops S x v a := by
  rcases h with ⟨h1, h2⟩ | h
  · exact .inl ⟨h1, fun w hS => by rw [h2 w hS]; exact ⟨rfl, rfl⟩⟩
  · exact .inr h
/-- Number i is taken first. -/
theorem takeT {i : Nat} {x : Oper} {v : Value} {fuel : Nat} {L : Array Bool} {a : Act} {w : World} (hi : ops[i]? = some x) (hs : Region.noSelect ops = true) (hf : Region.free md ops L i = true) (hr : (Region.ready md ops L).contains i = true) (hτ : (Region.waitsFor md ops τ i && decide (i ≠ τ)) = true)
    (hQ : ∀ c a w, Q (.panic c) (a.put x.dst v) w → Q (.panic c) a w) (hx : YieldsIf P ops S x v a) (hS : S w) (h : heldT P md ops Q S τ fuel (L.setIfInBounds i true) (a.put x.dst v) w) : heldT P md ops Q S τ (fuel + 1) L a w := by
  simp only [Bool.and_eq_true, decide_eq_true_eq] at hτ
  exact takeT_go hi (Region.noSelect_spec hs) hQ hτ.1 hτ.2 fuel L a w (Region.free_spec hi hf) (by simpa using hr) (GivesIf.yields hx) hS h
/-- Number i is taken first, of which the last one knows by number m alone. -/
theorem takeT2 (m : Nat) {i : Nat} {x : Oper} {v : Value} {fuel : Nat} {L : Array Bool} {a : Act} {w : World} (hi : ops[i]? = some x) (hs : Region.noSelect ops = true) (hf : Region.free md ops L i = true) (hr : (Region.ready md ops L).contains i = true) (hτ : (Region.waitsFor md ops τ m && Region.waitsFor md ops m i && decide (i ≠ τ)) = true) (hm : L.getD m true = false)
    (hQ : ∀ c a w, Q (.panic c) (a.put x.dst v) w → Q (.panic c) a w) (hx : YieldsIf P ops S x v a) (hS : S w) (h : heldT P md ops Q S τ fuel (L.setIfInBounds i true) (a.put x.dst v) w) : heldT P md ops Q S τ (fuel + 1) L a w := by
  simp only [Bool.and_eq_true, decide_eq_true_eq] at hτ
  exact takeT2_go hi (Region.noSelect_spec hs) hQ hτ.1.1 hτ.1.2 hτ.2 fuel L a w (Region.free_spec hi hf) hm (by simpa using hr) (GivesIf.yields hx) hS h
end
end Go.Proofs.Ytcfehddnccdejaa
