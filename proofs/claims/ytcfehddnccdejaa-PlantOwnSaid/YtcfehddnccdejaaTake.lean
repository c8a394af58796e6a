/- A region that draws its order: an operation that gives its value in every world of a kind, and leaves the world as it is, may be taken first: a call that only reads, too. -/
import Derived.Deep.RegionHeld
namespace Go.Proofs.Ytcfehddnccdejaa
set_option linter.unusedSimpArgs false
set_option linter.unusedVariables false
section
variable {P : Program} {ops : Array Oper} {Q : Exit → Act → World → Prop} {md : Region.Mode} {S : World → Prop}

/-- What an operation has come to: the value v, at once or by a call; the world is w. -/
def Gives (P : Program) (w : World) (v : Value) : Result Next → Prop
  | .ok (.value u) w' => u = v ∧ w' = w
  | .ok (.enter f args) w' => Calls P f args w' fun e w'' => e = .returned v ∧ w'' = w
  | _ => False
theorem Gives.to {w : World} {v : Value} {r : Result Next} (h : Gives P w v r) (o : Oper) (a : Act) (K : Act → World → Prop) (hk : K (a.put o.dst v) w) : o.upon P a K Q r := by
  match r, h with
  | .ok (.value u) w', h => obtain ⟨rfl, rfl⟩ := h; exact hk
  | .ok (.enter f args) w', h => exact Calls.mono h fun e w'' he => by obtain ⟨rfl, rfl⟩ := he; exact hk
/-- In each world of the kind S the operation gives v, or it isn't asked for. -/
def GivesIf (P : Program) (ops : Array Oper) (S : World → Prop) (o : Oper) (v : Value) (a : Act) : Prop :=
  (Region.wanted o (yielded ops a.tmps) = true ∧ ∀ w, S w → Gives P w v ((execOp a.eval o).run P w)) ∨ (Region.wanted o (yielded ops a.tmps) = false ∧ v = undef)
theorem GivesIf.same {o : Oper} {v : Value} {a b : Act} (h : GivesIf P ops S o v a) (he : execOp b.eval o = execOp a.eval o) (hw : Region.wanted o (yielded ops b.tmps) = Region.wanted o (yielded ops a.tmps)) : GivesIf P ops S o v b := by
  unfold GivesIf; rw [he, hw]; exact h
theorem GivesIf.op {i : Nat} {o : Oper} {v : Value} {a : Act} (hi : ops[i]? = some o) (h : GivesIf P ops S o v a) {K : Act → World → Prop} {w : World} (hS : S w) (hk : K (a.put o.dst v) w) : wpOp P ops Q i K a w := by
  unfold wpOp
  rw [hi]
  show if Region.wanted o (yielded ops a.tmps) = true then _ else _
  rcases h with ⟨hw, hv⟩ | ⟨hw, rfl⟩
  · rw [if_pos hw]; exact .inl ((hv w hS).to o a K hk)
  · rw [hw]; exact hk

/-- Another operation goes on the same, whether that value is laid already or not. -/
theorem GivesIf.pass {j : Nat} {x y : Oper} {v : Value} (hj : ops[j]? = some y) (hap : x.apart ops y = true) (hsx : ∀ cs b, x.op ≠ .select cs b) (hsy : ∀ cs b, y.op ≠ .select cs b)
    (hQ : ∀ c a w, Q (.panic c) (a.put x.dst v) w → Q (.panic c) a w) {K : Act → World → Prop} {a : Act} {w : World} (hx : GivesIf P ops S x v a) (h : wpOp P ops Q j K (a.put x.dst v) w) :
    wpOp P ops Q j (fun b u => GivesIf P ops S x v b ∧ K (b.put x.dst v) u) a w := by
  obtain ⟨n1, n2, n3⟩ := Oper.apart_spec hap
  have g1 : ∀ u, GivesIf P ops S x v (a.put y.dst u) := fun u => hx.same (execOp_put x hsx a y.dst u n3) (wanted_put x a y.dst u n3)
  have g2 : ∀ d u, GivesIf P ops S x v (({ a with defers := d :: a.defers } : Act).put y.dst u) := fun d u => by
    have g : GivesIf P ops S x v ({ a with defers := d :: a.defers } : Act) := hx
    exact g.same (execOp_put x hsx _ y.dst u n3) (wanted_put x _ y.dst u n3)
  have ew := wanted_put y a x.dst v n1
  have ee := execOp_put y hsy a x.dst v n1
  unfold wpOp at h ⊢
  rw [hj] at h ⊢
  simp only [] at h ⊢
  rw [ew] at h
  by_cases hw : Region.wanted y (yielded ops a.tmps) = true
  · rw [if_pos hw] at h ⊢
    rcases h with h | ⟨h1, h2⟩
    · left
      unfold Oper.wp at h ⊢
      rw [ee] at h
      revert h
      generalize (execOp a.eval y).run P w = r
      intro h
      match r, h with
      | .ok (.value u) w', h => exact ⟨g1 u, by rw [← Act.put_comm a v u n2]; exact h⟩
      | .ok .skip w', h => exact ⟨g1 undef, by rw [← Act.put_comm a v undef n2]; exact h⟩
      | .ok (.defer d) w', h =>
        refine ⟨g2 d undef, ?_⟩
        rw [← Act.put_comm _ v undef n2, ← Act.put_defers]
        exact h
      | .ok (.enter f args) w', h =>
        refine Calls.mono h fun e w'' he => ?_
        match e, he with
        | .returned u, he => exact ⟨g1 u, by rw [← Act.put_comm a v u n2]; exact he⟩
        | .panicked c, he => exact hQ c a w'' he
        | .outgrown, he => exact he
      | .ok (.row row args) w', h => exact Rows.mono h fun u w'' he => ⟨g1 u, by rw [← Act.put_comm a v u n2]; exact he⟩
      | .halt (.panic u) w', h => exact hQ _ a w' h
    · right
      refine ⟨?_, h2⟩
      unfold Oper.asks at h1 ⊢
      rw [ee] at h1
      exact h1
  · rw [if_neg hw] at h ⊢
    exact ⟨g1 undef, by rw [← Act.put_comm a v undef n2]; exact h⟩

theorem take_go {i : Nat} {x : Oper} {v : Value} (hi : ops[i]? = some x) (hsel : ∀ (j : Nat) (o : Oper) cs b, ops[j]? = some o → o.op ≠ .select cs b) (hQ : ∀ c a w, Q (.panic c) (a.put x.dst v) w → Q (.panic c) a w) :
    ∀ (fuel : Nat) (L : Array Bool) (a : Act) (w : World), (∀ j y, ops[j]? = some y → j ≠ i → L.getD j true = false → (∀ e ∈ y.after, Region.binds md e = true → e.on ≠ i) → x.apart ops y = true) →
      i ∈ Region.ready md ops L → GivesIf P ops S x v a → S w → wpAnyH P md ops Q S fuel (L.setIfInBounds i true) (a.put x.dst v) w → wpAnyH P md ops Q S (fuel + 1) L a w := by
  intro fuel
  induction fuel with
  | zero =>
    intro L a w _ hr hx hS H
    refine ⟨fun h0 => absurd hr (by rw [h0]; simp), fun j hj => ?_⟩
    rcases Nat.decEq j i with hne | heq
    · exact absurd (ready_mono hj hne) (by rw [H.1]; simp)
    · subst heq; exact hx.op hi hS ⟨hS, H⟩
  | succ fuel ih =>
    intro L a w hfree hr hx hS H
    refine ⟨fun h0 => absurd hr (by rw [h0]; simp), fun j hj => ?_⟩
    rcases Nat.decEq j i with hne | heq
    · obtain ⟨hLj, y, hy, hall⟩ := mem_ready.1 hj
      have hLi := (mem_ready.1 hr).1
      have hno : ∀ e ∈ y.after, Region.binds md e = true → e.on ≠ i := fun e he hb heq => by
        have h1 := hall e he hb
        rw [heq] at h1
        by_cases hlt : i < L.size
        · simp [hlt] at hLi h1; rw [hLi] at h1; cases h1
        · simp [Array.getElem?_eq_none (Nat.le_of_not_lt hlt)] at h1
      have h2 := GivesIf.pass hy (hfree j y hy hne hLj hno) (fun cs b => hsel i x cs b hi) (fun cs b => hsel j y cs b hy) hQ hx (H.2 j (ready_mono hj hne))
      refine wpOp_mono (fun b u hb => ⟨hb.2.1, ih _ b u ?_ (ready_mono hr (Ne.symm hne)) hb.1 hb.2.1 ?_⟩) h2
      · intro k z hz hki hun hnz
        refine hfree k z hz hki ?_ hnz
        rcases Nat.decEq j k with hjk | hjk
        · rw [getD_set_ne true hjk] at hun; exact hun
        · subst hjk; exact hLj
      · rw [Array.setIfInBounds_comm _ _ hne]; exact hb.2.2
    · subst heq; exact hx.op hi hS ⟨hS, H⟩
/-- Number i is taken first. -/
theorem take_first {i : Nat} {x : Oper} {v : Value} {fuel : Nat} {L : Array Bool} {a : Act} {w : World} (hi : ops[i]? = some x) (hs : Region.noSelect ops = true) (hf : Region.free md ops L i = true) (hr : (Region.ready md ops L).contains i = true)
    (hQ : ∀ c a w, Q (.panic c) (a.put x.dst v) w → Q (.panic c) a w) (hx : GivesIf P ops S x v a) (hS : S w) (h : wpAnyH P md ops Q S fuel (L.setIfInBounds i true) (a.put x.dst v) w) : wpAnyH P md ops Q S (fuel + 1) L a w :=
  take_go hi (Region.noSelect_spec hs) hQ fuel L a w (Region.free_spec hi hf) (by simpa using hr) hx hS h
/-- A call that only reads, as it stands in a region. -/
theorem GivesIf.call {o : Oper} {v : Value} {a : Act} {f : FuncId} {args : Array Value} (hw : Region.wanted o (yielded ops a.tmps) = true) (he : ∀ w, (execOp a.eval o).run P w = .ok (.enter f args) w)
    (h : ∀ w, S w → Calls P f args w fun e w' => e = .returned v ∧ w = w') : GivesIf P ops S o v a :=
  .inl ⟨hw, fun w hS => by rw [he]; exact (h w hS).mono fun e w' he => ⟨he.1, he.2.symm⟩⟩
end
end Go.Proofs.Ytcfehddnccdejaa
