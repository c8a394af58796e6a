/- As Tail, where several operations come last: behind those nothing more is asked of the world. -/
import Derived.Test.YtcfehddnccdejaaTake
import Derived.Test.YtcfehddnccdejaaTail
import Derived.StillTail
namespace Go.Proofs.Ytcfehddnccdejaa
set_option linter.unusedSimpArgs false
set_option linter.unusedVariables false
section
variable {P : Program} {ops : Array Oper} {Q : Exit → Act → World → Prop} {md : Region.Mode} {S : World → Prop} {T : List Nat}

/-- Whatever order is picked from here on; S holds behind each operation, but for those of T. -/
def heldU (P : Program) (md : Region.Mode) (ops : Array Oper) (Q : Exit → Act → World → Prop) (S : World → Prop) (T : List Nat) : Nat → Array Bool → Act → World → Prop
  | 0, L, a, w => Region.ready md ops L = [] ∧ Q .normal a w
  | fuel + 1, L, a, w => (Region.ready md ops L = [] → Q .normal a w) ∧ ∀ i ∈ Region.ready md ops L, wpOp P ops Q i (fun b u => (S u ∨ i ∈ T) ∧ heldU P md ops Q S T fuel (L.setIfInBounds i true) b u) a w
theorem heldU.any : ∀ (fuel : Nat) (L : Array Bool) (a : Act) (w : World), heldU P md ops Q S T fuel L a w → wpAny P md ops Q fuel L a w
  | 0, _, _, _, h => h
  | fuel + 1, _, _, _, h => ⟨h.1, fun i hi => wpOp_mono (fun a' w' h' => heldU.any fuel _ a' w' h'.2) (h.2 i hi)⟩
theorem region_tailU (S : World → Prop) (T : List Nat) {id : Nat} {a : Act} {w : World} (hm : P.follows .mixedOrders = true) (hS : S w.drew)
    (h : S w.drew → heldU P .any ops Q S T ops.size (Array.replicate ops.size false) a w.drew) : (Code.region id ops true).wp P Q a w :=
  wp_region_any hm (heldU.any _ _ _ _ (h hS))
theorem heldU.done {L : Array Bool} {a : Act} {w : World} (hr : Region.ready md ops L = []) (h : Q .normal a w) : ∀ fuel, heldU P md ops Q S T fuel L a w
  | 0 => ⟨hr, h⟩
  | _ + 1 => ⟨fun _ => h, by rw [hr]; simp⟩
/-- The only one that may come up is carried out. -/
theorem heldU.one {i : Nat} {o : Oper} {fuel : Nat} {L : Array Bool} {a : Act} {w : World} (hr : Region.ready md ops L = [i]) (ho : ops[i]? = some o)
    (h : ∀ K' : Act → World → Prop, Shut (∀ a w, (S w ∨ i ∈ T) → heldU P md ops Q S T fuel (L.setIfInBounds i true) a w → K' a w) → if Region.wanted o (yielded ops a.tmps) = true then Oper.wp P o a w K' Q else K' (a.put o.dst undef) w) :
    heldU P md ops Q S T (fuel + 1) L a w := by
  refine ⟨fun h0 => (by rw [h0] at hr; cases hr), fun j hj => ?_⟩
  rw [hr] at hj
  rcases List.mem_cons.1 hj with rfl | hj
  · exact wpOp_step ho (fun K' hK => h K' (fun a w hS hW => hK a w ⟨hS, hW⟩))
  · cases hj
/-- Several that may come up, each carried out. -/
def ReadyU (P : Program) (md : Region.Mode) (ops : Array Oper) (Q : Exit → Act → World → Prop) (S : World → Prop) (T : List Nat) (fuel : Nat) (L : Array Bool) (a : Act) (w : World) (rs : List Nat) : Prop :=
  ∀ i ∈ rs, wpOp P ops Q i (fun b u => (S u ∨ i ∈ T) ∧ heldU P md ops Q S T fuel (L.setIfInBounds i true) b u) a w
theorem ReadyU.nil {fuel : Nat} {L : Array Bool} {a : Act} {w : World} : ReadyU P md ops Q S T fuel L a w [] := fun _ h => by cases h
theorem ReadyU.cons {fuel : Nat} {L : Array Bool} {a : Act} {w : World} {i : Nat} {o : Oper} {rs : List Nat} (ho : ops[i]? = some o)
    (h : ∀ K' : Act → World → Prop, Shut (∀ a w, (S w ∨ i ∈ T) → heldU P md ops Q S T fuel (L.setIfInBounds i true) a w → K' a w) → if Region.wanted o (yielded ops a.tmps) = true then Oper.wp P o a w K' Q else K' (a.put o.dst undef) w)
    (hs : ReadyU P md ops Q S T fuel L a w rs) : ReadyU P md ops Q S T fuel L a w (i :: rs) := fun j hj => by
  rcases List.mem_cons.1 hj with rfl | hj
  · exact wpOp_step ho (fun K' hK => h K' (fun a w hS hW => hK a w ⟨hS, hW⟩))
  · exact hs j hj
theorem heldU.ready {rs : List Nat} {fuel : Nat} {L : Array Bool} {a : Act} {w : World} (hr : Region.ready md ops L = rs) (hne : rs ≠ [])
    (h : ReadyU P md ops Q S T fuel L a w rs) : heldU P md ops Q S T (fuel + 1) L a w := ⟨fun h0 => absurd (hr ▸ h0) hne, hr ▸ h⟩
/-- M: numbers that can't come up yet, each of which waits for another one of them, or for number i. -/
theorem takeU_go {i : Nat} {x : Oper} {v : Value} (hi : ops[i]? = some x) (hsel : ∀ (j : Nat) (o : Oper) cs b, ops[j]? = some o → o.op ≠ .select cs b) (hQ : ∀ c a w, Q (.panic c) (a.put x.dst v) w → Q (.panic c) a w) (M : List Nat) (hT : ∀ j ∈ T, j ∈ M) (hM : ∀ m ∈ M, ∃ q, (q = i ∨ q ∈ M) ∧ Region.waitsFor md ops m q = true) :
    ∀ (fuel : Nat) (L : Array Bool) (a : Act) (w : World), (∀ j y, ops[j]? = some y → j ≠ i → L.getD j true = false → (∀ e ∈ y.after, Region.binds md e = true → e.on ≠ i) → x.apart ops y = true) →
      (∀ m ∈ M, L.getD m true = false) → i ∈ Region.ready md ops L → GivesIf P ops S x v a → S w → heldU P md ops Q S T fuel (L.setIfInBounds i true) (a.put x.dst v) w → i ∉ T → heldU P md ops Q S T (fuel + 1) L a w := by
  intro fuel
  induction fuel with
  | zero =>
    intro L a w _ hm hr hx hS H hiT
    refine ⟨fun h0 => absurd hr (by rw [h0]; simp), fun j hj => ?_⟩
    rcases Nat.decEq j i with hne | heq
    · exact absurd (ready_mono hj hne) (by rw [H.1]; simp)
    · subst heq; exact hx.op hi hS ⟨.inl hS, H⟩
  | succ fuel ih =>
    intro L a w hfree hm hr hx hS H hiT
    refine ⟨fun h0 => absurd hr (by rw [h0]; simp), fun j hj => ?_⟩
    rcases Nat.decEq j i with hne | heq
    · obtain ⟨hLj, y, hy, hall⟩ := mem_ready.1 hj
      have hLi := (mem_ready.1 hr).1
      have hno : ∀ q, L.getD q true = false → ∀ e ∈ y.after, Region.binds md e = true → e.on ≠ q := fun q hLq e he hb heq => by
        have h1 := hall e he hb
        rw [heq] at h1
        by_cases hlt : q < L.size
        · simp [hlt] at hLq h1; rw [hLq] at h1; cases h1
        · simp [Array.getElem?_eq_none (Nat.le_of_not_lt hlt)] at h1
      have hjM : j ∉ M := fun hjm => by
        obtain ⟨q, hq, hwq⟩ := hM j hjm
        have hLq : L.getD q true = false := by
          rcases hq with rfl | hq
          · exact hLi
          · exact hm q hq
        obtain ⟨oj, ho, e, he, hb, hon⟩ := Region.waitsFor_spec hwq
        rw [hy] at ho
        injection ho with ho
        subst ho
        exact hno q hLq e he hb hon
      have hjT : ¬ j ∈ T := fun h => hjM (hT j h)
      have h2 := GivesIf.pass hy (hfree j y hy hne hLj (hno i hLi)) (fun cs b => hsel i x cs b hi) (fun cs b => hsel j y cs b hy) hQ hx (H.2 j (ready_mono hj hne))
      refine wpOp_mono (fun b u hb => ⟨hb.2.1, ih _ b u ?_ (fun m hmM => by rw [getD_set_ne true (show j ≠ m from fun (e : j = m) => hjM (by rw [e]; exact hmM))]; exact hm m hmM) (ready_mono hr (Ne.symm hne)) hb.1 (hb.2.1.resolve_right hjT) ?_ hiT⟩) h2
      · intro k z hz hki hun hnz
        refine hfree k z hz hki ?_ hnz
        rcases Nat.decEq j k with hjk | hjk
        · rw [getD_set_ne true hjk] at hun; exact hun
        · subst hjk; exact hLj
      · rw [Array.setIfInBounds_comm _ _ hne]; exact hb.2.2
    · subst heq; exact hx.op hi hS ⟨.inl hS, H⟩
/-- What takeU asks of M. -/
def lateOkU (md : Region.Mode) (ops : Array Oper) (T M : List Nat) (i : Nat) (L : Array Bool) : Bool :=
  T.all (fun j => M.contains j) && M.all (fun m => (i :: M).any fun q => Region.waitsFor md ops m q) && M.all (fun m => L.getD m true == false) && !T.contains i
/-- Number i is taken first. -/
theorem takeU (M : List Nat) {i : Nat} {x : Oper} {v : Value} {fuel : Nat} {L : Array Bool} {a : Act} {w : World} (hi : ops[i]? = some x) (hs : Region.noSelect ops = true) (hf : Region.free md ops L i = true) (hr : (Region.ready md ops L).contains i = true) (hM : lateOkU md ops T M i L = true)
    (hQ : ∀ c a w, Q (.panic c) (a.put x.dst v) w → Q (.panic c) a w) (hx : GivesIf P ops S x v a) (hS : S w) (h : heldU P md ops Q S T fuel (L.setIfInBounds i true) (a.put x.dst v) w) : heldU P md ops Q S T (fuel + 1) L a w := by
  simp only [lateOkU, Bool.and_eq_true, List.all_eq_true, List.any_eq_true, List.contains_iff_mem, beq_iff_eq, Bool.not_eq_true', List.mem_cons] at hM
  exact takeU_go hi (Region.noSelect_spec hs) hQ M hM.1.1.1 hM.1.1.2 fuel L a w (Region.free_spec hi hf) hM.1.2 (by simpa using hr) hx hS h (by have := hM.2; simpa using this)
end
end Go.Proofs.Ytcfehddnccdejaa
