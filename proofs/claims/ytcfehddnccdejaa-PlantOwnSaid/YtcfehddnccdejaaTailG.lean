/- As TailF, in a round too: no operation of the region is a defer. -/
import Derived.OrdersIn
import Derived.OrdersHeld
import Derived.StillTail
import Derived.Deep.RegionHeld
import Derived.OwnWalkIn
namespace Go.Proofs.Ytcfehddnccdejaa
set_option linter.unusedSimpArgs false
set_option linter.unusedVariables false
section
variable {F : Fence} {n : Nat} {P : Program} {ops : Array Oper} {Q : Exit → Act → World → Prop} {md : Region.Mode} {S : World → Prop} {T : List Nat}

/-- None of them is a defer. -/
def noDf (ops : Array Oper) : Bool := ops.all fun o => match o.op with
  | .defer _ => false
  | _ => true
theorem noDf_of {ops : Array Oper} (h : noDf ops = true) {i : Nat} {o : Oper} (hi : ops[i]? = some o) : ∀ c, o.op ≠ .defer c := by
  intro c hc
  obtain ⟨hlt, he⟩ := Array.getElem?_eq_some_iff.1 hi
  have := (Array.all_eq_true.1 h) i hlt
  rw [he, hc] at this
  cases this
/-- In each world of the kind S the operation gives v, leaves the world and calls nobody; or it isn't asked for. -/
def GivesG (P : Program) (ops : Array Oper) (S : World → Prop) (o : Oper) (v : Value) (a : Act) : Prop := YieldsIf P ops S o v a ∧ ∀ w, o.about P w a.eval = none
theorem GivesG.same {o : Oper} {v : Value} {a b : Act} (h : GivesG P ops S o v a) (he : execOp b.eval o = execOp a.eval o) (hw : Region.wanted o (yielded ops b.tmps) = Region.wanted o (yielded ops a.tmps)) (hb : ∀ w, o.about P w b.eval = o.about P w a.eval) : GivesG P ops S o v b :=
  ⟨h.1.of_same he hw, fun w => (hb w).trans (h.2 w)⟩
theorem GivesG.op {i : Nat} {o : Oper} {v : Value} {a : Act} (hnd : noDf ops = true) (hi : ops[i]? = some o) (h : GivesG P ops S o v a) {K : Act → World → Prop} {w : World} (hS : S w) (hk : K (a.put o.dst v) w) : wpOpIn F n P ops Q i K a w := by
  have hab : ∀ f, o.about P w a.eval = some f → F.fn f := fun f hf => by rw [h.2 w] at hf; cases hf
  unfold wpOpIn
  rw [hi]
  show if Region.wanted o (yielded ops a.tmps) = true then _ else _
  rcases h.1 with ⟨hw, hv⟩ | ⟨hw, rfl⟩
  · rw [if_pos hw]
    unfold Oper.wpIn
    rw [Oper.semAt_plain F _ _ (noDf_of hnd hi), hv w hS]
    exact ⟨hab, hk⟩
  · rw [hw]; exact ⟨hab, hk⟩
/-- Another operation goes on the same, whether that value is laid already or not. -/
theorem GivesG.pass {j : Nat} {x y : Oper} {v : Value} (hnd : noDf ops = true) (hj : ops[j]? = some y) (hap : x.apart ops y = true) (hsx : ∀ cs b, x.op ≠ .select cs b) (hsy : ∀ cs b, y.op ≠ .select cs b)
    (hQ : ∀ c a w, Q (.panic c) (a.put x.dst v) w → Q (.panic c) a w) {K : Act → World → Prop} {a : Act} {w : World} (hx : GivesG P ops S x v a) (h : wpOpIn F n P ops Q j K (a.put x.dst v) w) :
    wpOpIn F n P ops Q j (fun b u => GivesG P ops S x v b ∧ K (b.put x.dst v) u) a w := by
  obtain ⟨n1, n2, n3⟩ := Oper.apart_spec hap
  have g1 : ∀ u, GivesG P ops S x v (a.put y.dst u) := fun u => hx.same (execOp_put x hsx a y.dst u n3) (wanted_put x a y.dst u n3) (fun w => about_put x w a y.dst u n3)
  have g2 : ∀ d u, GivesG P ops S x v (({ a with defers := d :: a.defers } : Act).put y.dst u) := fun d u => by
    have g : GivesG P ops S x v ({ a with defers := d :: a.defers } : Act) := hx
    exact g.same (execOp_put x hsx _ y.dst u n3) (wanted_put x _ y.dst u n3) (fun w => about_put x w _ y.dst u n3)
  have ew := wanted_put y a x.dst v n1
  have ee := execOp_put y hsy a x.dst v n1
  have ea := about_put (P := P) y w a x.dst v n1
  unfold wpOpIn at h ⊢
  rw [hj] at h ⊢
  simp only [] at h ⊢
  rw [ew, ea] at h
  by_cases hw : Region.wanted y (yielded ops a.tmps) = true
  · rw [if_pos hw] at h ⊢
    unfold Oper.wpIn at h ⊢
    rw [ea] at h
    refine ⟨h.1, ?_⟩
    have h := h.2
    rw [Oper.semAt_plain F _ _ (noDf_of hnd hj), ee] at h
    rw [Oper.semAt_plain F _ _ (noDf_of hnd hj)]
    revert h
    generalize (execOp a.eval y).run P w = r
    intro h
    match r, h with
    | .ok (.value u) w', h => exact ⟨g1 u, by rw [← Act.put_comm a v u n2]; exact h⟩
    | .ok .skip w', h => exact ⟨g1 undef, by rw [← Act.put_comm a v undef n2]; exact h⟩
    | .ok (.defer d) w', h =>
      refine ⟨g2 d undef, ?_⟩
      rw [← Act.put_comm _ v undef n2, ← Act.put_defers]
      exact h
    | .ok (.enter f args) w', h =>
      refine ⟨h.1, CallsIn.mono h.2 fun e w'' he => ?_⟩
      match e, he with
      | .returned u, he => exact ⟨g1 u, by rw [← Act.put_comm a v u n2]; exact he⟩
      | .panicked c, he => exact hQ c a w'' he
      | .outgrown, he => exact he
    | .ok (.row row args) w', h => exact ⟨h.1, RowsIn.mono h.2 fun u w'' he => ⟨g1 u, by rw [← Act.put_comm a v u n2]; exact he⟩⟩
    | .ok (.round l f tmps assign body) w', h =>
      refine ⟨h.1, RoundIn.mono h.2 fun e w'' he => ?_⟩
      match e, he with
      | .returned u, he => exact ⟨g1 u, by rw [← Act.put_comm a v u n2]; exact he⟩
      | .panicked c, he => exact hQ c a w'' he
      | .outgrown, he => exact he
    | .halt (.panic u) w', h => exact hQ _ a w' h
  · rw [if_neg hw] at h ⊢
    exact ⟨h.1, g1 undef, by rw [← Act.put_comm a v undef n2]; exact h.2⟩

/-- Whatever order is picked from here on; S holds behind each operation, but for those of T. -/
def heldG (F : Fence) (n : Nat) (P : Program) (md : Region.Mode) (ops : Array Oper) (Q : Exit → Act → World → Prop) (S : World → Prop) (T : List Nat) : Nat → Array Bool → Act → World → Prop
  | 0, L, a, w => Region.ready md ops L = [] ∧ Q .normal a w
  | fuel + 1, L, a, w => (Region.ready md ops L = [] → Q .normal a w) ∧ ∀ i ∈ Region.ready md ops L, wpOpIn F n P ops Q i (fun b u => (S u ∨ i ∈ T) ∧ heldG F n P md ops Q S T fuel (L.setIfInBounds i true) b u) a w
theorem heldG.any : ∀ (fuel : Nat) (L : Array Bool) (a : Act) (w : World), heldG F n P md ops Q S T fuel L a w → wpAnyIn F n P md ops Q fuel L a w
  | 0, _, _, _, h => h
  | fuel + 1, _, _, _, h => ⟨h.1, fun i hi => wpOpIn_mono (fun a' w' h' => heldG.any fuel _ a' w' h'.2) (h.2 i hi)⟩
theorem region_tailG (S : World → Prop) (T : List Nat) {id : Nat} {a : Act} {w : World} (hm : P.follows .mixedOrders = true) (hS : S w.drew)
    (h : S w.drew → heldG F n P .any ops Q S T ops.size (Array.replicate ops.size false) a w.drew) : (Code.region id ops true).wpIn F n P Q a w :=
  wpIn_region_any hm (heldG.any _ _ _ _ (h hS))
theorem heldG.done {L : Array Bool} {a : Act} {w : World} (hr : Region.ready md ops L = []) (h : Q .normal a w) : ∀ fuel, heldG F n P md ops Q S T fuel L a w
  | 0 => ⟨hr, h⟩
  | _ + 1 => ⟨fun _ => h, by rw [hr]; simp⟩
/-- The only one that may come up is carried out. -/
theorem heldG.one {i : Nat} {o : Oper} {fuel : Nat} {L : Array Bool} {a : Act} {w : World} (hr : Region.ready md ops L = [i]) (ho : ops[i]? = some o)
    (h : ∀ K' : Act → World → Prop, Shut (∀ a w, (S w ∨ i ∈ T) → heldG F n P md ops Q S T fuel (L.setIfInBounds i true) a w → K' a w) → if Region.wanted o (yielded ops a.tmps) = true then Oper.wpIn F n P o a w K' Q else (∀ f, o.about P w a.eval = some f → F.fn f) ∧ K' (a.put o.dst undef) w) :
    heldG F n P md ops Q S T (fuel + 1) L a w := by
  refine ⟨fun h0 => (by rw [h0] at hr; cases hr), fun j hj => ?_⟩
  rw [hr] at hj
  rcases List.mem_cons.1 hj with rfl | hj
  · exact wpOpIn_step ho (fun K' hK => h K' (fun a w hS hW => hK a w ⟨hS, hW⟩))
  · cases hj
/-- M: numbers that can't come up yet, each of which waits for another one of them, or for number i. -/
theorem takeG_go {i : Nat} {x : Oper} {v : Value} (hnd : noDf ops = true) (hi : ops[i]? = some x) (hsel : ∀ (j : Nat) (o : Oper) cs b, ops[j]? = some o → o.op ≠ .select cs b) (hQ : ∀ c a w, Q (.panic c) (a.put x.dst v) w → Q (.panic c) a w) (M : List Nat) (hT : ∀ j ∈ T, j ∈ M) (hM : ∀ m ∈ M, ∃ q, (q = i ∨ q ∈ M) ∧ Region.waitsFor md ops m q = true) :
    ∀ (fuel : Nat) (L : Array Bool) (a : Act) (w : World), (∀ j y, ops[j]? = some y → j ≠ i → L.getD j true = false → (∀ e ∈ y.after, Region.binds md e = true → e.on ≠ i) → x.apart ops y = true) →
      (∀ m ∈ M, L.getD m true = false) → i ∈ Region.ready md ops L → GivesG P ops S x v a → S w → heldG F n P md ops Q S T fuel (L.setIfInBounds i true) (a.put x.dst v) w → i ∉ T → heldG F n P md ops Q S T (fuel + 1) L a w := by
  intro fuel
  induction fuel with
  | zero =>
    intro L a w _ hm hr hx hS H hiT
    refine ⟨fun h0 => absurd hr (by rw [h0]; simp), fun j hj => ?_⟩
    rcases Nat.decEq j i with hne | heq
    · exact absurd (ready_mono hj hne) (by rw [H.1]; simp)
    · subst heq; exact hx.op hnd hi hS ⟨.inl hS, H⟩
  | succ fuel ih =>
    intro L a w hfree hm hr hx hS H hiT
    refine ⟨fun h0 => absurd hr (by rw [h0]; simp), fun j hj => ?_⟩
    rcases Nat.decEq j i with hne | heq
    · obtain ⟨hLj, y, hy, hall⟩ := mem_ready.1 hj
      have hLi := (mem_ready.1 hr).1
      have hno : ∀ q, L.getD q true = false → ∀ e ∈ y.after, Region.binds md e = true → e.on ≠ q := fun q hLq e he hb heq => by
        have h1 := hall e he hb
        rw [heq] at h1
        by_cases hlt : q < L.size
        · simp [hlt] at hLq h1; rw [hLq] at h1; cases h1
        · simp [Array.getElem?_eq_none (Nat.le_of_not_lt hlt)] at h1
      have hjM : j ∉ M := fun hjm => by
        obtain ⟨q, hq, hwq⟩ := hM j hjm
        have hLq : L.getD q true = false := by
          rcases hq with rfl | hq
          · exact hLi
          · exact hm q hq
        obtain ⟨oj, ho, e, he, hb, hon⟩ := Region.waitsFor_spec hwq
        rw [hy] at ho
        injection ho with ho
        subst ho
        exact hno q hLq e he hb hon
      have hjT : ¬ j ∈ T := fun h => hjM (hT j h)
      have h2 := GivesG.pass hnd hy (hfree j y hy hne hLj (hno i hLi)) (fun cs b => hsel i x cs b hi) (fun cs b => hsel j y cs b hy) hQ hx (H.2 j (ready_mono hj hne))
      refine wpOpIn_mono (fun b u hb => ⟨hb.2.1, ih _ b u ?_ (fun m hmM => by rw [getD_set_ne true (show j ≠ m from fun (e : j = m) => hjM (by rw [e]; exact hmM))]; exact hm m hmM) (ready_mono hr (Ne.symm hne)) hb.1 (hb.2.1.resolve_right hjT) ?_ hiT⟩) h2
      · intro k z hz hki hun hnz
        refine hfree k z hz hki ?_ hnz
        rcases Nat.decEq j k with hjk | hjk
        · rw [getD_set_ne true hjk] at hun; exact hun
        · subst hjk; exact hLj
      · rw [Array.setIfInBounds_comm _ _ hne]; exact hb.2.2
    · subst heq; exact hx.op hnd hi hS ⟨.inl hS, H⟩
/-- What takeG asks of M. -/
def lateOkG (md : Region.Mode) (ops : Array Oper) (T M : List Nat) (i : Nat) (L : Array Bool) : Bool :=
  T.all (fun j => M.contains j) && M.all (fun m => (i :: M).any fun q => Region.waitsFor md ops m q) && M.all (fun m => L.getD m true == false) && !T.contains i
/-- Number i is taken first. -/
theorem takeG (M : List Nat) {i : Nat} {x : Oper} {v : Value} {fuel : Nat} {L : Array Bool} {a : Act} {w : World} (hnd : noDf ops = true) (hi : ops[i]? = some x) (hs : Region.noSelect ops = true) (hf : Region.free md ops L i = true) (hr : (Region.ready md ops L).contains i = true) (hM : lateOkG md ops T M i L = true)
    (hQ : ∀ c a w, Q (.panic c) (a.put x.dst v) w → Q (.panic c) a w) (hx : YieldsIf P ops S x v a) (hb : ∀ w, x.about P w a.eval = none) (hS : S w) (h : heldG F n P md ops Q S T fuel (L.setIfInBounds i true) (a.put x.dst v) w) : heldG F n P md ops Q S T (fuel + 1) L a w := by
  simp only [lateOkG, Bool.and_eq_true, List.all_eq_true, List.any_eq_true, List.contains_iff_mem, beq_iff_eq, Bool.not_eq_true', List.mem_cons] at hM
  exact takeG_go hnd hi (Region.noSelect_spec hs) hQ M hM.1.1.1 hM.1.1.2 fuel L a w (Region.free_spec hi hf) hM.1.2 (by simpa using hr) ⟨hx, hb⟩ hS h (by have := hM.2; simpa using this)
/-- Where the region can only end as it should. -/
def onlyN (Q : Exit → Act → World → Prop) : Exit → Act → World → Prop
  | .normal, a, w => Q .normal a w
  | _, _, _ => False
theorem region_tailN (S : World → Prop) (T : List Nat) {id : Nat} {a : Act} {w : World} (hm : P.follows .mixedOrders = true) (hS : S w.drew)
    (h : S w.drew → heldG F n P .any ops (onlyN Q) S T ops.size (Array.replicate ops.size false) a w.drew) : (Code.region id ops true).wpIn F n P Q a w :=
  wpIn_mono (region_tailG S T hm hS h) (fun e a w h => by cases e <;> first | exact h | exact False.elim h)
end
end Go.Proofs.Ytcfehddnccdejaa
