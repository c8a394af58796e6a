/- A region that draws its order: an operation that gives its v. Steps of a region that draws its order, number by number, in. Small words for memory, over any program: a block known whol. Bytes that the call itself owns: append onto them from any s. Small words for memory: rows of one-cell values of the call'. What a call leaves of all that isn't its own. A disk in memory: what its files are, in words of maps; what. Contracts of the program's disk: New, look-ups, lay. -/
import Derived.Deep.RegionHeld
import Derived.Lib.Hide
import Derived.Below
import Derived.WalkKit
import Derived.Laws.Rows
import Derived.Laws.IdiomCopy
import Derived.Deep.MidRow
import Derived.IntWalk
import Derived.OpenShut
import Derived.OwnWalk
import Derived.Maps.AppendAt
import Derived.Laws.AppendOwnNone
import Derived.Laws.BytesArg
import Derived.Deep.AppendLies
import Derived.Test.YtamblmoedommfaaGreatDoorProg
import Derived.Test.YtamblmoedommfaaGreatDoorChecked
import Derived.Maps.Ext
import Derived.Maps.StringElems
import Derived.Sort.KeysCollected
import Derived.Deep.QuietTactic
import Derived.BigQuiet
import Derived.Test.YtamblmoedommfaaGreatDoorLib
import Derived.Carry
namespace Go.Proofs.YtamblmoedommfaaGreatDoor
set_option maxRecDepth 100000
set_option maxHeartbeats 40000000
set_option linter.unusedVariables false
set_option linter.unusedSimpArgs false
set_option linter.unusedSectionVars false
section
section
variable {P : Program} {ops : Array Oper} {Q : Exit → Act → World → Prop} {md : Region.Mode} {S : World → Prop}
def Gives (P : Program) (w : World) (v : Value) : Result Next → Prop
 | .ok (.value u) w' => u = v ∧ w' = w
 | .ok (.enter f args) w' => Calls P f args w' fun e w'' => e = .returned v ∧ w'' = w
 | _ => False
theorem Gives.to {w : World} {v : Value} {r : Result Next} (h : Gives P w v r) (o : Oper) (a : Act) (K : Act → World → Prop) (hk : K (a.put o.dst v) w) : o.upon P a K Q r := by
 match r, h with
 | .ok (.value u) w', h => obtain ⟨rfl, rfl⟩ := h; exact hk
 | .ok (.enter f args) w', h => exact Calls.mono h fun e w'' he => by obtain ⟨rfl, rfl⟩ := he; exact hk
def GivesIf (P : Program) (ops : Array Oper) (S : World → Prop) (o : Oper) (v : Value) (a : Act) : Prop :=
 (Region.wanted o (yielded ops a.tmps) = true ∧ ∀ w, S w → Gives P w v ((execOp a.eval o).run P w)) ∨ (Region.wanted o (yielded ops a.tmps) = false ∧ v = undef)
theorem GivesIf.same {o : Oper} {v : Value} {a b : Act} (h : GivesIf P ops S o v a) (he : execOp b.eval o = execOp a.eval o) (hw : Region.wanted o (yielded ops b.tmps) = Region.wanted o (yielded ops a.tmps)) : GivesIf P ops S o v b := by
 unfold GivesIf; rw [he, hw]; exact h
theorem GivesIf.op {i : Nat} {o : Oper} {v : Value} {a : Act} (hi : ops[i]? = some o) (h : GivesIf P ops S o v a) {K : Act → World → Prop} {w : World} (hS : S w) (hk : K (a.put o.dst v) w) : wpOp P ops Q i K a w := by
 unfold wpOp
 rw [hi]
 show if Region.wanted o (yielded ops a.tmps) = true then _ else _
 rcases h with ⟨hw, hv⟩ | ⟨hw, rfl⟩
 · rw [if_pos hw]; exact .inl ((hv w hS).to o a K hk)
 rw [hw]; exact hk
theorem GivesIf.pass {j : Nat} {x y : Oper} {v : Value} (hj : ops[j]? = some y) (hap : x.apart ops y = true) (hsx : ∀ cs b, x.op ≠ .select cs b) (hsy : ∀ cs b, y.op ≠ .select cs b)
 (hQ : ∀ c a w, Q (.panic c) (a.put x.dst v) w → Q (.panic c) a w) {K : Act → World → Prop} {a : Act} {w : World} (hx : GivesIf P ops S x v a) (h : wpOp P ops Q j K (a.put x.dst v) w) :
 wpOp P ops Q j (fun b u => GivesIf P ops S x v b ∧ K (b.put x.dst v) u) a w := by
 obtain ⟨n1, n2, n3⟩ := Oper.apart_spec hap
 have g1 : ∀ u, GivesIf P ops S x v (a.put y.dst u) := fun u => hx.same (execOp_put x hsx a y.dst u n3) (wanted_put x a y.dst u n3)
 have g2 : ∀ d u, GivesIf P ops S x v (({ a with defers := d :: a.defers } : Act).put y.dst u) := fun d u => by
  have g : GivesIf P ops S x v ({ a with defers := d :: a.defers } : Act) := hx
  exact g.same (execOp_put x hsx _ y.dst u n3) (wanted_put x _ y.dst u n3)
 have ew := wanted_put y a x.dst v n1
 have ee := execOp_put y hsy a x.dst v n1
 unfold wpOp at h ⊢
 rw [hj] at h ⊢
 simp only [] at h ⊢
 rw [ew] at h
 by_cases hw : Region.wanted y (yielded ops a.tmps) = true
 · rw [if_pos hw] at h ⊢
   rcases h with h | ⟨h1, h2⟩
   · left
     unfold Oper.wp at h ⊢
     rw [ee] at h
     revert h
     generalize (execOp a.eval y).run P w = r
     intro h
     match r, h with
     | .ok (.value u) w', h => exact ⟨g1 u, by rw [← Act.put_comm a v u n2]; exact h⟩
     | .ok .skip w', h => exact ⟨g1 undef, by rw [← Act.put_comm a v undef n2]; exact h⟩
     | .ok (.defer d) w', h =>
      refine ⟨g2 d undef, ?_⟩
      rw [← Act.put_comm _ v undef n2, ← Act.put_defers]
      exact h
     | .ok (.enter f args) w', h =>
      refine Calls.mono h fun e w'' he => ?_
      match e, he with
      | .returned u, he => exact ⟨g1 u, by rw [← Act.put_comm a v u n2]; exact he⟩
      | .panicked c, he => exact hQ c a w'' he
      | .outgrown, he => exact he
     | .ok (.row row args) w', h => exact Rows.mono h fun u w'' he => ⟨g1 u, by rw [← Act.put_comm a v u n2]; exact he⟩
     | .halt (.panic u) w', h => exact hQ _ a w' h
   right
   refine ⟨?_, h2⟩
   unfold Oper.asks at h1 ⊢
   rw [ee] at h1
   exact h1
 rw [if_neg hw] at h ⊢
 exact ⟨g1 undef, by rw [← Act.put_comm a v undef n2]; exact h⟩
theorem take_go {i : Nat} {x : Oper} {v : Value} (hi : ops[i]? = some x) (hsel : ∀ (j : Nat) (o : Oper) cs b, ops[j]? = some o → o.op ≠ .select cs b) (hQ : ∀ c a w, Q (.panic c) (a.put x.dst v) w → Q (.panic c) a w) :
 ∀ (fuel : Nat) (L : Array Bool) (a : Act) (w : World), (∀ j y, ops[j]? = some y → j ≠ i → L.getD j true = false → (∀ e ∈ y.after, Region.binds md e = true → e.on ≠ i) → x.apart ops y = true) →
  i ∈ Region.ready md ops L → GivesIf P ops S x v a → S w → wpAnyH P md ops Q S fuel (L.setIfInBounds i true) (a.put x.dst v) w → wpAnyH P md ops Q S (fuel + 1) L a w := by
 intro fuel
 induction fuel with
 | zero =>
  intro L a w _ hr hx hS H
  refine ⟨fun h0 => absurd hr (by rw [h0]; simp), fun j hj => ?_⟩
  rcases Nat.decEq j i with hne | heq
  · exact absurd (ready_mono hj hne) (by rw [H.1]; simp)
  subst heq; exact hx.op hi hS ⟨hS, H⟩
 | succ fuel ih =>
  intro L a w hfree hr hx hS H
  refine ⟨fun h0 => absurd hr (by rw [h0]; simp), fun j hj => ?_⟩
  rcases Nat.decEq j i with hne | heq
  · obtain ⟨hLj, y, hy, hall⟩ := mem_ready.1 hj
    have hLi := (mem_ready.1 hr).1
    have hno : ∀ e ∈ y.after, Region.binds md e = true → e.on ≠ i := fun e he hb heq => by
     have h1 := hall e he hb
     rw [heq] at h1
     by_cases hlt : i < L.size
     · simp [hlt] at hLi h1; rw [hLi] at h1; cases h1
     simp [Array.getElem?_eq_none (Nat.le_of_not_lt hlt)] at h1
    have h2 := GivesIf.pass hy (hfree j y hy hne hLj hno) (fun cs b => hsel i x cs b hi) (fun cs b => hsel j y cs b hy) hQ hx (H.2 j (ready_mono hj hne))
    refine wpOp_mono (fun b u hb => ⟨hb.2.1, ih _ b u ?_ (ready_mono hr (Ne.symm hne)) hb.1 hb.2.1 ?_⟩) h2
    · intro k z hz hki hun hnz
      refine hfree k z hz hki ?_ hnz
      rcases Nat.decEq j k with hjk | hjk
      · rw [getD_set_ne true hjk] at hun; exact hun
      subst hjk; exact hLj
    rw [Array.setIfInBounds_comm _ _ hne]; exact hb.2.2
  subst heq; exact hx.op hi hS ⟨hS, H⟩
theorem take_first {i : Nat} {x : Oper} {v : Value} {fuel : Nat} {L : Array Bool} {a : Act} {w : World} (hi : ops[i]? = some x) (hs : Region.noSelect ops = true) (hf : Region.free md ops L i = true) (hr : (Region.ready md ops L).contains i = true)
 (hQ : ∀ c a w, Q (.panic c) (a.put x.dst v) w → Q (.panic c) a w) (hx : GivesIf P ops S x v a) (hS : S w) (h : wpAnyH P md ops Q S fuel (L.setIfInBounds i true) (a.put x.dst v) w) : wpAnyH P md ops Q S (fuel + 1) L a w :=
 take_go hi (Region.noSelect_spec hs) hQ fuel L a w (Region.free_spec hi hf) (by simpa using hr) hx hS h
theorem GivesIf.call {o : Oper} {v : Value} {a : Act} {f : FuncId} {args : Array Value} (hw : Region.wanted o (yielded ops a.tmps) = true) (he : ∀ w, (execOp a.eval o).run P w = .ok (.enter f args) w)
 (h : ∀ w, S w → Calls P f args w fun e w' => e = .returned v ∧ w = w') : GivesIf P ops S o v a :=
 .inl ⟨hw, fun w hS => by rw [he]; exact (h w hS).mono fun e w' he => ⟨he.1, he.2.symm⟩⟩
end
end
section
universe u v
theorem lz : (∀ {α : Type u} {a : List α} {i : Nat} (h : i < a.toArray.size), a.toArray[i] = a[i]'(by simpa using h)) ∧ (∀ {α : Type u} {a : α} {r : List α} {i : Nat} (h : i + 1 < (a :: r).length), (a :: r)[i + 1] = r[i]'(Nat.lt_of_succ_lt_succ h)) ∧
 (∀ {α : Type u} {a : α} {r : List α} (h : 0 < (a :: r).length), (a :: r)[0] = a) ∧ (∀ {α : Type u} (l : List α) (i : Nat) (a : α), l.toArray.setIfInBounds i a = (l.set i a).toArray) ∧
 (∀ {α : Type u} {x : α} {xs : List α} {b : α}, (x :: xs).set 0 b = b :: xs) ∧ (∀ {α : Type u} {x : α} {xs : List α} {n : Nat} {b : α}, (x :: xs).set (n + 1) b = x :: xs.set n b) :=
 ⟨fun h => List.getElem_toArray h, fun _ => rfl, fun _ => rfl, fun l i a => by simp, rfl, rfl⟩
section
variable {P : Program} {ops : Array Oper} {Q : Exit → Act → World → Prop} {md : Region.Mode} {S : World → Prop}
def AtOp (P : Program) (md : Region.Mode) (ops : Array Oper) (Q : Exit → Act → World → Prop) (S : World → Prop) (s fuel : Nat) (listed : Array Bool) (a : Act) (w : World) : Prop := S w → wpAnyH P md ops Q S fuel listed a w
theorem qi (s : Nat) {fuel : Nat} {listed : Array Bool} {a : Act} {w : World} (hS : S w) (h : AtOp P md ops Q S s fuel listed a w) : wpAnyH P md ops Q S fuel listed a w := h hS
theorem qo {s fuel : Nat} {listed : Array Bool} {a : Act} {w : World} (h : wpAnyH P md ops Q S fuel listed a w) : AtOp P md ops Q S s fuel listed a w := fun _ => h
theorem qk {s : Nat} {oi : Oper} {v : Value} {fuel : Nat} {listed : Array Bool} {a a' : Act} {w : World} (hi : ops[s]? = some oi)
 (hb : (Region.noSelect ops && (Region.free md ops listed s && ((Region.ready md ops listed).contains s && Region.wanted oi (yielded ops a.tmps)))) = true)
 (hQ : ∀ c a w, Q (.panic c) (a.put oi.dst v) w → Q (.panic c) a w) (hy : ∀ w, S w → (execOp a.eval oi).run P w = .ok (.value v) w) (ha : a.put oi.dst v = a')
 (h : AtOp P md ops Q S (s + 1) fuel (listed.setIfInBounds s true) a' w) : AtOp P md ops Q S s (fuel + 1) listed a w := fun hS => by
 simp only [Bool.and_eq_true] at hb
 exact wpAnyH_take hi hb.1 hb.2.1 hb.2.2.1 hQ (Or.inl ⟨hb.2.2.2, hy⟩) hS (ha ▸ h hS)
theorem qu {s : Nat} {oi : Oper} {fuel : Nat} {listed : Array Bool} {a a' : Act} {w : World} (hi : ops[s]? = some oi)
 (hb : (Region.noSelect ops && (Region.free md ops listed s && ((Region.ready md ops listed).contains s && !Region.wanted oi (yielded ops a.tmps)))) = true)
 (hQ : ∀ c a w, Q (.panic c) (a.put oi.dst undef) w → Q (.panic c) a w) (ha : a.put oi.dst undef = a')
 (h : AtOp P md ops Q S (s + 1) fuel (listed.setIfInBounds s true) a' w) : AtOp P md ops Q S s (fuel + 1) listed a w := fun hS => by
 simp only [Bool.and_eq_true, Bool.not_eq_true'] at hb
 exact wpAnyH_take hi hb.1 hb.2.1 hb.2.2.1 hQ (Or.inr ⟨hb.2.2.2, rfl⟩) hS (ha ▸ h hS)
theorem qr (i : Nat) {o : Oper} {fuel : Nat} {listed : Array Bool} {a : Act} {w : World} (ho : ops[i]? = some o) (hr : Region.ready md ops listed = [i])
 (h : ∀ K' : Act → World → Prop, Shut (∀ a w, S w → (S w → wpAnyH P md ops Q S fuel (listed.setIfInBounds i true) a w) → K' a w) → if Region.wanted o (yielded ops a.tmps) = true then Oper.wp P o a w K' Q else K' (a.put o.dst undef) w) : wpAnyH P md ops Q S (fuel + 1) listed a w :=
 wpAnyH_ready hr (by simp) (AllReadyH.cons ho h AllReadyH.nil)
end
theorem Qh {p : Prop} (h : p) : Go.RowKit.Hid p := h
theorem Qa {p q : Prop} (h : p) (k : q) : p ∧ q := ⟨h, k⟩
theorem Qn {n : Nat} : n ≤ n := Nat.le_refl n
theorem Qb {n : Nat} {w : World} : Go.RowKit.Below n w w := Go.RowKit.Below.refl n w
end
section
open Go.RowKit
theorem ret_u32 {a b : Int} (h : a = b) : Ending.returned (.int .u32 a) = .returned (.int .u32 b) := by rw [h]
theorem val_u32 {a b : Int} (h : a = b) : Value.int .u32 a = .int .u32 b := by rw [h]
theorem heap_setCells_row (g : Nat) (t : TypeId) : ∀ (vs : List Value) (o : Nat) (pre cs : List Value) (w : World), pre.length = o → cs.length = vs.length →
 w.heap[g]? = some (.cells (pre ++ cs).toArray t (0, 0)) → (w.setCells g o vs).heap[g]? = some (.cells (pre ++ vs).toArray t (0, 0)) := by
 intro vs
 induction vs with
 | nil =>
  intro o pre cs w h1 h2 h
  have : cs = [] := List.eq_nil_of_length_eq_zero (by simpa using h2)
  subst this
  simpa [World.setCells] using h
 | cons v vs ih =>
  intro o pre cs w h1 h2 h
  match cs, h2 with
  | c :: cs, h2 =>
   have hs := heap_setCell_same w g o _ t v h
   have e : ((pre ++ c :: cs).toArray.setIfInBounds o v) = ((pre ++ [v]) ++ cs).toArray := by
    rw [List.setIfInBounds_toArray, List.set_append_right _ _ (by omega)]
    simp [h1]
   rw [e] at hs
   have := ih (o + 1) (pre ++ [v]) cs _ (by simp [h1]) (by simpa using h2) hs
   simpa [World.setCells] using this
theorem heap_setCells_whole {g : Nat} {t : TypeId} {cs : List Value} {w : World} (vs : List Value) (hl : cs.length = vs.length)
 (h : w.heap[g]? = some (.cells cs.toArray t (0, 0))) : (w.setCells g 0 vs).heap[g]? = some (.cells vs.toArray t (0, 0)) := by
 simpa using heap_setCells_row g t vs 0 [] cs w rfl hl (by simpa using h)
theorem there_of_block {w : World} {g n : Nat} {cs : Array Value} {t : TypeId} (h : w.heap[g]? = some (.cells cs t (0, 0))) (hn : n ≤ cs.size) : w.there g 0 n := by
 intro j hj
 rw [Nat.zero_add, cell_of_row w g j cs t (0, 0) h]
 exact ⟨by simp; omega, frozen_of_row w g j cs t h⟩
theorem below_setCells' {B : Nat} {a : World} (b : Nat) (hb : B ≤ b) : ∀ (vs : List Value) (o : Nat) {w : World}, Below B a w → Below B a (w.setCells b o vs)
 | [], _, _, h => h
 | v :: r, o, _, h => below_setCells' b hb r (o + 1) (h.setCell (p := ⟨b, o, none⟩) hb v)
theorem lt_of_heap {w : World} {g : Nat} {o : Obj} (h : w.heap[g]? = some o) : g < w.heap.size := by
 rcases Nat.lt_or_ge g w.heap.size with hlt | hge
 · exact hlt
 rw [Array.getElem?_eq_none hge] at h; cases h
theorem cell_set_far {w : World} {p q : Addr} {u v : Value} (h : w.cell? q = some v) (hne : q.block ≠ p.block) : (w.setCell p u).cell? q = some v :=
 (World.cell?_of_block (w := w) (Below.heap_setCell w p u q.block hne)).trans h
structure Sl (w : World) (B : Nat) (a : Option Addr) (len cap : Nat) (bs : List Nat) : Prop where
 length : bs.length = len
 le : len ≤ cap
 max : cap ≤ maxLen
 byte : ∀ c ∈ bs, c < 256
 none_ : a = none → cap = 0
 at_ : 0 < len → ∃ b o, a = some ⟨b, o, none⟩ ∧ b < B ∧ ∀ k, k < len → w.cell? ⟨b, o + k, none⟩ = some (.int .u8 ((bs.getD k 0 : Nat) : Int))
theorem Sl.below {w w' : World} {B B' : Nat} {a : Option Addr} {len cap : Nat} {bs : List Nat} (h : Sl w B a len cap bs) (hb : Below B' w w') (hB : B ≤ B') : Sl w' B' a len cap bs :=
 ⟨h.length, h.le, h.max, h.byte, h.none_, fun hp => by
  obtain ⟨b, o, e, hlt, hc⟩ := h.at_ hp
  exact ⟨b, o, e, by omega, fun k hk => (hb.cell (p := ⟨b, o + k, none⟩) (by show b < B'; omega)).trans (hc k hk)⟩⟩
theorem Sl.more {w : World} {B B' : Nat} {a : Option Addr} {len cap : Nat} {bs : List Nat} (h : Sl w B a len cap bs) (hB : B ≤ B') : Sl w B' a len cap bs :=
 h.below Qb hB
theorem Sl.nil_ {w : World} {B : Nat} : Sl w B none 0 0 [] := ⟨rfl, by omega, by simp [maxLen], by simp, fun _ => rfl, fun h => absurd h (by omega)⟩
theorem Sl.lt {w : World} {B : Nat} {a : Option Addr} {len cap : Nat} {bs : List Nat} (h : Sl w B a len cap bs) {k : Nat} (_hk : k < len) : bs.getD k 0 < 256 := by
 have hl := h.length
 rw [List.getD_eq_getElem?_getD, List.getElem?_eq_getElem (by omega)]
 exact h.byte _ (List.getElem_mem _)
theorem Sl.take {w : World} {B : Nat} {a : Option Addr} {len cap : Nat} {bs : List Nat} (h : Sl w B a len cap bs) {k : Nat} (hk : k ≤ len) : Sl w B a k cap (bs.take k) :=
 ⟨by rw [List.length_take, h.length]; omega, by have := h.le; omega, h.max, fun c hc => h.byte c (List.mem_of_mem_take hc), h.none_, fun hp => by
  obtain ⟨b, o, e, hlt, hcell⟩ := h.at_ (by omega)
  exact ⟨b, o, e, hlt, fun j hj => by rw [hcell j (by omega), List.getD_eq_getElem?_getD, List.getD_eq_getElem?_getD, List.getElem?_take_of_lt hj]⟩⟩
theorem Sl.drop {w : World} {B : Nat} {a a' : Option Addr} {len cap : Nat} {bs : List Nat} (h : Sl w B a len cap bs) {k : Nat} (hk : k ≤ len)
 (ha : k < len → a' = a.map (·.add k)) (hn : a' = none → a = none) : Sl w B a' (len - k) (cap - k) (bs.drop k) :=
 ⟨by rw [List.length_drop, h.length], by have := h.le; omega, by have := h.max; omega, fun c hc => h.byte c (List.mem_of_mem_drop hc), fun e => by rw [h.none_ (hn e)]; omega, fun hp => by
  obtain ⟨b, o, e, hlt, hcell⟩ := h.at_ (by omega)
  refine ⟨b, o + k, by rw [ha (by omega), e]; simp [Addr.add_mid], hlt, fun j hj => ?_⟩
  rw [Nat.add_assoc, hcell (k + j) (by omega), List.getD_eq_getElem?_getD, List.getD_eq_getElem?_getD, List.getElem?_drop]⟩
theorem Sl.new {w : World} {t : TypeId} {bs : List Nat} {g : Nat} {cs : Array Value} {fr : Nat × Nat} (h : w.heap[g]? = some (.cells cs t fr)) (hcs : cs = (bs.map fun n => Value.int .u8 ((n : Nat) : Int)).toArray)
 (hb : ∀ c ∈ bs, c < 256) (n : Nat) (hn : n = bs.length) (hm : bs.length ≤ maxLen) : Sl w w.heap.size (some ⟨g, 0, none⟩) n n bs := by
 subst hn
 refine ⟨rfl, Nat.le_refl _, hm, hb, fun e => by (cases e), fun _ => ⟨g, 0, rfl, lt_of_heap h, fun k hk => ?_⟩⟩
 rw [Nat.zero_add, cell_of_row w g k cs t fr h, hcs, List.getElem?_toArray, List.getElem?_map, List.getElem?_eq_getElem hk, List.getD_eq_getElem?_getD, List.getElem?_eq_getElem hk]
 rfl
end
section
open Go.RowKit
def bv (n : Nat) : Value := .int .u8 (n : Int)
theorem bv_one (bs : List Nat) : ∀ u ∈ bs.map bv, u.oneCell' = true := by
 intro u hu
 obtain ⟨n, _, rfl⟩ := List.mem_map.1 hu
 rfl
def OwnB (w : World) (base : Nat) (e : TypeId) (v : Value) (bs : List Nat) : Prop := w.ownsRow base e 1 v bs.length (bs.map bv)
theorem OwnB.nil_ (w : World) (base : Nat) (e : TypeId) : OwnB w base e (.slice none 0 0) [] := World.ownsRow_nil w base e 1
theorem OwnB.lit {w : World} {base : Nat} (e : TypeId) (bs : List Nat) (hb : base ≤ w.heap.size) (hm : bs.length ≤ maxLen) :
 OwnB (w.alloc (.cells (bs.map bv).toArray e)) base e (.slice (some ⟨w.heap.size, 0, none⟩) bs.length bs.length) bs := by
 have := World.ownsRow_lit (base := base) (e := e) (size := 1) w (bs.map bv).toArray bs.length hb hm (by simp)
 simpa [OwnB] using this
theorem OwnB.sl {w : World} {base : Nat} {e : TypeId} {v : Value} {bs : List Nat} (h : OwnB w base e v bs) (hb : ∀ c ∈ bs, c < 256) :
 ∃ a cap, v = .slice a bs.length cap ∧ Sl w w.heap.size a bs.length cap bs := by
 rcases h.2 with ⟨rfl, h0⟩ | ⟨g, cap, cur, rfl, hbase, hh, hn, hc, hsz, htake⟩
 · have : bs = [] := List.eq_nil_of_length_eq_zero h0
   subst this
   exact ⟨none, 0, rfl, Sl.nil_⟩
 refine ⟨_, cap, rfl, ⟨rfl, hn, hc, hb, fun e => by (cases e), fun _ => ⟨g, 0, rfl, lt_of_heap hh, fun k hk => ?_⟩⟩⟩
 have hcell := World.ownsRow.cellAt h k (by omega)
 rw [Nat.zero_add, hcell, List.getElem?_map, List.getElem?_eq_getElem hk, List.getD_eq_getElem?_getD, List.getElem?_eq_getElem hk]
 rfl
theorem Sl.news {w : World} {B : Nat} {ad : Addr} {m c : Nat} {cs : List Nat} (h : Sl w B (some ad) m c cs) : ∀ j u, (cs.map bv)[j]? = some u → w.cell? (ad.add j) = some u := by
 intro j u hu
 rw [List.getElem?_map] at hu
 obtain ⟨n, hn, rfl⟩ := Option.map_eq_some_iff.1 hu
 have hj : j < m := by
  have := (List.getElem?_eq_some_iff.1 hn).1
  rw [← h.length]; exact this
 obtain ⟨b, o, e, _, hc⟩ := h.at_ (by omega)
 have he : ad = ⟨b, o, none⟩ := by injection e
 subst he
 rw [Addr.add_mid, hc j hj, List.getD_eq_getElem?_getD, hn]
 rfl
theorem wpList_append_sl {P : Program} {w : World} {ops : Array Oper} {rest : List Oper} {o : Oper} {a : Act} {Q : Exit → Act → World → Prop} (hgd : o.guard = none) (s x : Operand) (t : TypeId)
 (ho : o.op = .call { callee := .builtin .append, args := #[s, x], argTypes := #[t, t] })
 (base : Nat) (e : TypeId) (ht : P.underlying t = some (.slice e)) (hi : (P.info? e).map (fun i => (i.zero, i.size, i.bytes)) = some (some (.int .u8 0), 1, 1))
 (v : Value) (bs : List Nat) (hs : a.eval s = v) (hown : OwnB w base e v bs)
 (B : Nat) (A : Option Addr) (m c : Nat) (cs : List Nat) (hx : a.eval x = .slice A m c) (hc : Sl w B A m c cs)
 (hbytes : bs.length + m ≤ 140737488355328) (hbase : base ≤ w.heap.size)
 (h : ∀ v' w', OwnB w' base e v' (bs ++ cs) → w.grownBy w' v.ownBlock → (v'.ownBlock = v.ownBlock ∨ v'.ownBlock = some w.heap.size) → wpList P ops Q rest (a.put o.dst v') w') :
 wpList P ops Q (o :: rest) a w := by
 obtain ⟨i, hi, hz0, hz1, hz2⟩ := info_parts hi
 cases A with
 | none =>
  have hc0 := hc.none_ rfl
  have hm0 : m = 0 := by have := hc.le; omega
  subst hc0 hm0
  have hcs : cs = [] := List.eq_nil_of_length_eq_zero hc.length
  subst hcs
  refine wpList_append_own_none hgd s x t ho base e i 1 ht hi v bs.length (bs.map bv) hs hown hx ?_
  exact h v w (by simpa using hown) (World.grownBy.refl w _) (.inl rfl)
 | some ad =>
  refine wpList_append_own_at w hgd s x t ho base e i (.int .u8 0) 1 1 ht hi hz0 hz1 hz2 rfl (by decide) v bs.length (bs.map bv) hs hown ad m c (cs.map bv) hx (by rw [List.length_map, hc.length]; omega) hc.news (bv_one cs)
   (by unfold maxLen; omega) (by omega) hbase ?_
  intro v' w' h1 h2 _ h4
  refine h v' w' ?_ h2 h4
  have := hc.length
  unfold OwnB
  rw [List.length_append, List.map_append, this]
  exact h1
theorem OwnB.made {w : World} {base : Nat} {e : TypeId} {v : Value} {n : Nat} (h : w.ownsRow base e 1 v n (madeCells (Value.int .u8 0).cells (n * 1)).toList) : OwnB w base e v (List.replicate n 0) := by
 have e1 : (madeCells (Value.int .u8 0).cells (n * 1)).toList = (List.replicate n 0).map bv := by
  rw [Nat.mul_one]
  show (madeCells #[Value.int .u8 0] n).toList = _
  rw [toList_madeCells_one, List.map_replicate]
  rfl
 unfold OwnB
 rw [List.length_replicate, ← e1]
 exact h
theorem OwnB.alloc {w : World} {base : Nat} {e : TypeId} {v : Value} {bs : List Nat} (h : OwnB w base e v bs) (o : Obj) : OwnB (w.alloc o) base e v bs := World.ownsRow.alloc h o
theorem OwnB.cell {w : World} {base : Nat} {e : TypeId} {g n cap : Nat} {bs : List Nat} (h : OwnB w base e (.slice (some ⟨g, 0, none⟩) n cap) bs) {k : Nat} (hk : k < bs.length) :
 w.cell? ⟨g, k, none⟩ = some (.int .u8 ((bs.getD k 0 : Nat) : Int)) ∧ w.frozen? ⟨g, k, none⟩ = false := by
 have hn : n = bs.length := by
  rcases h.2 with ⟨h', _⟩ | ⟨g', cap', cur, h', _⟩
  · cases h'
  injection h'
 subst hn
 refine ⟨?_, World.ownsRow.frozenAt h k⟩
 rw [World.ownsRow.cellAt h k (by omega), List.getElem?_map, List.getElem?_eq_getElem hk, List.getD_eq_getElem?_getD, List.getElem?_eq_getElem hk]
 rfl
theorem OwnB.set_ {w : World} {base : Nat} {e : TypeId} {g n cap : Nat} {bs : List Nat} (h : OwnB w base e (.slice (some ⟨g, 0, none⟩) n cap) bs) (k u : Nat) :
 OwnB (w.setCell ⟨g, k, none⟩ (bv u)) base e (.slice (some ⟨g, 0, none⟩) n cap) (bs.set k u) := by
 have hn : n = bs.length := by
  rcases h.2 with ⟨h', _⟩ | ⟨g', cap', cur, h', _⟩
  · cases h'
  injection h'
 subst hn
 have := (World.ownsRow.stored h k (bv u)).1
 unfold OwnB
 rw [List.length_set, List.map_set]
 exact this
/-! Cuts of a slice of bytes, in one form whatever the address. -/
section
variable {P : Program} (t e : TypeId) (ht : P.underlying t = some (.slice e)) (hi : (P.info? e).map (fun i => (i.zero, i.size, i.bytes)) = some (some (.int .u8 0), 1, 1))
include ht hi
theorem run_cut_to (a : Option Addr) (len cap k : Nat) (hk : k ≤ cap) (w : World) :
 (Instr.slice t (.slice a len cap) none (some (.int .i64 (k : Int))) none).run P w = .ok (.slice a k cap) w := by
 obtain ⟨i, hi, _, hz1, _⟩ := info_parts hi
 have hs : (sizeOf e).run P w = .ok 1 w := by simp [sizeOf, typeInfo, hi, hz1]
 have ht' : P.underlying t = some (.slice (P.elem t)) := by simp [Program.elem, ht]
 have he : P.elem t = e := by simp [Program.elem, ht]
 rw [run_slice_h w t _ _ _ ht' .i64 _ (by omega) (by omega), he, hs]
 have ha : a.map (fun x => x.add 0) = a := by cases a <;> simp [Addr.add]
 simp [Result.andThen, sliced, ha]
theorem run_cut_from (a : Option Addr) (len cap k : Nat) (hk : k ≤ len) (w : World) :
 (Instr.slice t (.slice a len cap) (some (.int .i64 (k : Int))) none none).run P w = .ok (.slice (if cap = k then a else a.map (·.add k)) (len - k) (cap - k)) w := by
 obtain ⟨i, hi, _, hz1, _⟩ := info_parts hi
 have hs : (sizeOf e).run P w = .ok 1 w := by simp [sizeOf, typeInfo, hi, hz1]
 have ht' : P.underlying t = some (.slice (P.elem t)) := by simp [Program.elem, ht]
 have he : P.elem t = e := by simp [Program.elem, ht]
 rw [run_slice_l w t _ _ _ ht' .i64 _ (by omega) (by omega), he, hs]
 simp [Result.andThen, sliced]
theorem run_cut_mid (a : Option Addr) (len cap j k : Nat) (hj : j ≤ k) (hk : k ≤ cap) (w : World) :
 (Instr.slice t (.slice a len cap) (some (.int .i64 (j : Int))) (some (.int .i64 (k : Int))) none).run P w = .ok (.slice (if cap = j then a else a.map (·.add j)) (k - j) (cap - j)) w := by
 obtain ⟨i, hi, _, hz1, _⟩ := info_parts hi
 have hs : (sizeOf e).run P w = .ok 1 w := by simp [sizeOf, typeInfo, hi, hz1]
 have ht' : P.underlying t = some (.slice (P.elem t)) := by simp [Program.elem, ht]
 have he : P.elem t = e := by simp [Program.elem, ht]
 rw [run_slice_lh w t _ _ _ ht' .i64 .i64 _ _ (by omega) (by omega) (by omega), he, hs]
 simp [Result.andThen, sliced]
end
def fromA (a : Option Addr) (cap k : Nat) : Option Addr := if cap = k then a else a.map (·.add k)
theorem Sl.from_ {w : World} {B : Nat} {a : Option Addr} {len cap : Nat} {bs : List Nat} (h : Sl w B a len cap bs) {k : Nat} (hk : k ≤ len) : Sl w B (fromA a cap k) (len - k) (cap - k) (bs.drop k) :=
 h.drop hk (fun hlt => by unfold fromA; rw [if_neg (by have := h.le; omega)]) (fun hn => by unfold fromA at hn; split at hn <;> simp_all)
theorem Sl.mid {w : World} {B : Nat} {a : Option Addr} {len cap : Nat} {bs : List Nat} (h : Sl w B a len cap bs) {j k : Nat} (hj : j ≤ k) (hk : k ≤ len) : Sl w B (fromA a cap j) (k - j) (cap - j) ((bs.take k).drop j) :=
 (h.take hk).from_ hj
end
section
open Go.RowKit
theorem ret_bool {a b : Bool} (h : a = b) : Ending.returned (.bool a) = .returned (.bool b) := by rw [h]
theorem ret_tup2 {a b a' b' : Value} (h : a = a') (k : b = b') : Ending.returned (.tuple #[a, b]) = .returned (.tuple #[a', b']) := by rw [h, k]
theorem ret_tup3 {a b c a' b' c' : Value} (h : a = a') (k : b = b') (l : c = c') : Ending.returned (.tuple #[a, b, c]) = .returned (.tuple #[a', b', c']) := by rw [h, k, l]
theorem ret_i64 {a b : Int} (h : a = b) : Ending.returned (.int .i64 a) = .returned (.int .i64 b) := by rw [h]
theorem grownBy_setCell (w : World) (p : Addr) (u : Value) : w.grownBy (w.setCell p u) (some p.block) :=
 ⟨rfl, rfl, rfl, by simp [World.setCell], fun k _ hne => Below.heap_setCell w p u k (fun h => hne (by rw [h]))⟩
theorem grownBy_below {B : Nat} {a w w' : World} {g : Nat} (h : Below B a w) (hg : w.grownBy w' (some g)) (hB : B ≤ w.heap.size) (hr : B ≤ g) : Below B a w' :=
 h.grown hg hB (fun k hk => by injection hk with hk; omega)
def OwnV (w : World) (base : Nat) (e : TypeId) (v : Value) (us : List Value) : Prop := w.ownsRow base e 1 v us.length us
theorem OwnV.nil_ (w : World) (base : Nat) (e : TypeId) : OwnV w base e (.slice none 0 0) [] := World.ownsRow_nil w base e 1
theorem OwnV.alloc {w : World} {base : Nat} {e : TypeId} {v : Value} {us : List Value} (h : OwnV w base e v us) (o : Obj) : OwnV (w.alloc o) base e v us := World.ownsRow.alloc h o
theorem OwnV.made {w : World} {base : Nat} {e : TypeId} {v z : Value} {n : Nat} (hz : z.cells = #[z]) (h : w.ownsRow base e 1 v n (madeCells z.cells (n * 1)).toList) : OwnV w base e v (List.replicate n z) := by
 have e1 : (madeCells z.cells (n * 1)).toList = List.replicate n z := by
  rw [Nat.mul_one, hz]
  exact toList_madeCells_one _ _
 unfold OwnV
 rw [List.length_replicate, ← e1]
 exact h
theorem OwnV.len {w : World} {base : Nat} {e : TypeId} {g n cap : Nat} {us : List Value} (h : OwnV w base e (.slice (some ⟨g, 0, none⟩) n cap) us) : n = us.length := by
 rcases h.2 with ⟨h', _⟩ | ⟨g', cap', cur, h', _⟩
 · cases h'
 injection h'
theorem OwnV.cell {w : World} {base : Nat} {e : TypeId} {g n cap : Nat} {us : List Value} (h : OwnV w base e (.slice (some ⟨g, 0, none⟩) n cap) us) {k : Nat} {u : Value} (hk : us[k]? = some u) :
 w.cell? ⟨g, k, none⟩ = some u ∧ w.frozen? ⟨g, k, none⟩ = false := by
 have hn := h.len
 subst hn
 have hlt := (List.getElem?_eq_some_iff.1 hk).1
 exact ⟨by rw [World.ownsRow.cellAt h k (by omega), hk], World.ownsRow.frozenAt h k⟩
theorem OwnV.set_ {w : World} {base : Nat} {e : TypeId} {g n cap : Nat} {us : List Value} (h : OwnV w base e (.slice (some ⟨g, 0, none⟩) n cap) us) (k : Nat) (u : Value) :
 OwnV (w.setCell ⟨g, k, none⟩ u) base e (.slice (some ⟨g, 0, none⟩) n cap) (us.set k u) := by
 have hn := h.len
 subst hn
 have := (World.ownsRow.stored h k u).1
 unfold OwnV
 rw [List.length_set]
 exact this
theorem OwnV.kept {w w' : World} {base : Nat} {e : TypeId} {g n cap : Nat} {us : List Value} {r : Option Nat} (h : OwnV w base e (.slice (some ⟨g, 0, none⟩) n cap) us) (hg : w.grownBy w' r) (hne : some g ≠ r) : OwnV w' base e (.slice (some ⟨g, 0, none⟩) n cap) us :=
 World.ownsRow.kept h hg (.inr hne)
theorem OwnV.base_ {w : World} {base : Nat} {e : TypeId} {g n cap : Nat} {us : List Value} (h : OwnV w base e (.slice (some ⟨g, 0, none⟩) n cap) us) : base ≤ g ∧ g < w.heap.size := by
 rcases h.2 with ⟨h', _⟩ | ⟨g', cap', cur, h', hb, hh, _⟩
 · cases h'
 injection h' with h1 h2 h3
 injection h1 with h4
 injection h4 with h5
 subst h5
 exact ⟨hb, lt_of_heap hh⟩
structure Row (w : World) (B : Nat) (a : Option Addr) (len cap c : Nat) (cs : Nat → Value) : Prop where
 le : len ≤ cap
 max : cap ≤ maxLen
 at_ : 0 < len → ∃ b o, a = some ⟨b, o, none⟩ ∧ b < B ∧ ∀ j, j < len * c → w.cell? ⟨b, o + j, none⟩ = some (cs j)
theorem Row.below {w w' : World} {B B' : Nat} {a : Option Addr} {len cap c : Nat} {cs : Nat → Value} (h : Row w B a len cap c cs) (hb : Below B' w w') (hB : B ≤ B') : Row w' B' a len cap c cs :=
 ⟨h.le, h.max, fun hp => by
  obtain ⟨b, o, e, hlt, hc⟩ := h.at_ hp
  exact ⟨b, o, e, by omega, fun k hk => (hb.cell (p := ⟨b, o + k, none⟩) (by show b < B'; omega)).trans (hc k hk)⟩⟩
theorem Row.more {w : World} {B B' : Nat} {a : Option Addr} {len cap c : Nat} {cs : Nat → Value} (h : Row w B a len cap c cs) (hB : B ≤ B') : Row w B' a len cap c cs := h.below Qb hB
theorem Row.new {w : World} {t : TypeId} {g : Nat} {l : Array Value} {fr : Nat × Nat} {n c : Nat} {cs : Nat → Value} (h : w.heap[g]? = some (.cells l t fr)) (hl : ∀ j, j < n * c → l[j]? = some (cs j)) (hm : n ≤ maxLen) : Row w w.heap.size (some ⟨g, 0, none⟩) n n c cs :=
 ⟨Nat.le_refl _, hm, fun _ => ⟨g, 0, rfl, lt_of_heap h, fun k hk => by rw [Nat.zero_add, cell_of_row w g k l t fr h, hl k hk]⟩⟩
theorem OwnB.sl_base {w : World} {base : Nat} {e : TypeId} {v : Value} {bs : List Nat} (h : OwnB w base e v bs) (hb : ∀ c ∈ bs, c < 256) :
 ∃ a cap, v = .slice a bs.length cap ∧ Sl w w.heap.size a bs.length cap bs ∧ ∀ b o, a = some ⟨b, o, none⟩ → base ≤ b := by
 obtain ⟨a, cap, hv, hs⟩ := h.sl hb
 refine ⟨a, cap, hv, hs, ?_⟩
 rintro b o rfl
 rcases h.2 with ⟨h', h0⟩ | ⟨g, cap', cur, h', hbase, _⟩
 · rw [hv] at h'; cases h'
 rw [hv] at h'
 injection h' with h1 h2 h3
 injection h1 with h4
 injection h4 with h5
 omega
theorem OwnB.mono {w : World} {base base' : Nat} {e : TypeId} {v : Value} {bs : List Nat} (h : OwnB w base e v bs) (hb : base' ≤ base) : OwnB w base' e v bs := by
 refine ⟨h.1, ?_⟩
 rcases h.2 with h1 | ⟨g, cap, cur, rfl, h2, h3⟩
 · exact .inl h1
 exact .inr ⟨g, cap, cur, rfl, Nat.le_trans hb h2, h3⟩
theorem grown_of_below {w w' : World} (hb : Below w.heap.size w w') (r : Option Nat) : w.grownBy w' r := ⟨hb.os, hb.tape, hb.output, hb.size, fun k hk _ => hb.block k hk⟩
theorem OwnB.below {w w' : World} {base : Nat} {e : TypeId} {v : Value} {bs : List Nat} (h : OwnB w base e v bs) (hb : Below w.heap.size w w') : OwnB w' base e v bs :=
 World.ownsRow.kept h (grown_of_below hb none) (by cases hv : v.ownBlock <;> simp)
theorem OwnB.at_base {w : World} {base : Nat} {e : TypeId} {v : Value} {bs : List Nat} (h : OwnB w base e v bs) {b : Nat} (hb : v.ownBlock = some b) : base ≤ b ∧ b < w.heap.size := by
 rcases h.2 with ⟨rfl, _⟩ | ⟨g, cap, cur, rfl, h2, h3, _⟩
 · cases hb
 injection hb with hb
 subst hb
 exact ⟨h2, lt_of_heap h3⟩
theorem Sl.one (w : World) (t : TypeId) {c : Nat} (hc : c < 256) : Sl (w.alloc (.cells #[.int .u8 (c : Int)] t)) (w.alloc (.cells #[.int .u8 (c : Int)] t)).heap.size (some ⟨w.heap.size, 0, none⟩) 1 1 [c] :=
 Sl.new (bs := [c]) (heap_alloc_new _ _) rfl (by intro x hx; simp at hx; omega) 1 rfl (by simp [maxLen])
theorem Sl.drew {w : World} {B : Nat} {a : Option Addr} {len cap : Nat} {bs : List Nat} (h : Sl w B a len cap bs) : Sl w.drew B a len cap bs := ⟨h.length, h.le, h.max, h.byte, h.none_, h.at_⟩
theorem below_drew_of {w w' : World} (h : Below w.drew.heap.size w.drew w') : Below w.heap.size w w' := (Below.drew (Below.refl w.heap.size w)).trans h
theorem Sl.far {w : World} {B : Nat} {a : Option Addr} {len cap : Nat} {bs : List Nat} (h : Sl w B a len cap bs) (p : Addr) (u : Value) (hne : 0 < len → ∀ b o, a = some ⟨b, o, none⟩ → b ≠ p.block) : Sl (w.setCell p u) B a len cap bs :=
 ⟨h.length, h.le, h.max, h.byte, h.none_, fun hp => by
  obtain ⟨b, o, e, hlt, hc⟩ := h.at_ hp
  exact ⟨b, o, e, hlt, fun k hk => cell_set_far (p := p) (hc k hk) (hne hp b o e)⟩⟩
theorem Sl.farCells {B : Nat} {a : Option Addr} {len cap : Nat} {bs : List Nat} (g : Nat) (hne : 0 < len → ∀ b o, a = some ⟨b, o, none⟩ → b ≠ g) : ∀ (vs : List Value) (o : Nat) {w : World}, Sl w B a len cap bs → Sl (w.setCells g o vs) B a len cap bs
 | [], _, _, h => h
 | v :: r, o, _, h => Sl.farCells g hne r (o + 1) (h.far ⟨g, o, none⟩ v hne)
theorem size_setCells (g : Nat) : ∀ (vs : List Value) (o : Nat) (w : World), (w.setCells g o vs).heap.size = w.heap.size
 | [], _, _ => rfl
 | v :: r, o, w => (size_setCells g r (o + 1) _).trans (by simp [World.setCell])
theorem Sl.kept {w w' : World} {B : Nat} {a : Option Addr} {len cap : Nat} {bs : List Nat} {r : Option Nat} (h : Sl w B a len cap bs) (hg : w.grownBy w' r) (hne : 0 < len → ∀ b o, a = some ⟨b, o, none⟩ → some b ≠ r) : Sl w' B a len cap bs :=
 ⟨h.length, h.le, h.max, h.byte, h.none_, fun hp => by
  obtain ⟨b, o, e, hlt, hc⟩ := h.at_ hp
  exact ⟨b, o, e, hlt, fun k hk => hg.cell (hc k hk) (hne hp b o e)⟩⟩
/-! Bytes as a string. -/
def strOf (bs : List Nat) : ByteArray := ⟨(bs.map fun n => UInt8.ofNat n).toArray⟩
theorem strOf_nil : strOf [] = ByteArray.empty := rfl
theorem strOf_inj {a b : List Nat} (ha : ∀ c ∈ a, c < 256) (hb : ∀ c ∈ b, c < 256) (h : strOf a = strOf b) : a = b := by
 have h1 : (a.map fun n => UInt8.ofNat n) = (b.map fun n => UInt8.ofNat n) := by
  have := congrArg (fun s : ByteArray => s.data.toList) h
  simpa [strOf] using this
 have h2 : ∀ (l : List Nat), (∀ c ∈ l, c < 256) → (l.map fun n => UInt8.ofNat n).map UInt8.toNat = l := by
  intro l hl
  rw [List.map_map]
  conv => rhs; rw [← List.map_id l]
  apply List.map_congr_left
  intro c hc
  have := hl c hc
  simp; omega
 rw [← h2 a ha, ← h2 b hb, h1]
theorem strOf_eq {a b : List Nat} (ha : ∀ c ∈ a, c < 256) (hb : ∀ c ∈ b, c < 256) : strOf a = strOf b ↔ a = b := ⟨strOf_inj ha hb, fun h => by rw [h]⟩
theorem run_str {P : Program} {w : World} {B : Nat} {a : Option Addr} {len cap : Nat} {bs : List Nat} (h : Sl w B a len cap bs) (src e dst : TypeId) (hs : P.underlying src = some (.slice e)) (he : P.underlying e = some (.int .u8))
 (hd : P.underlying dst = some .string) : (convert src dst (.slice a len cap)).run P w = .ok (.string (strOf bs)) w := by
 by_cases hl : 0 < len
 · obtain ⟨b, o, rfl, _, hc⟩ := h.at_ hl
   have := run_convert_bytes_arg (P := P) w src e hs he b o len cap (bs.map fun n => ((n : Nat) : Int)) (by rw [List.length_map, h.length]) (fun i hi => by
    rw [hc i hi, List.getD_eq_getElem?_getD, List.getD_eq_getElem?_getD, List.getElem?_map, List.getElem?_eq_getElem (by rw [h.length]; exact hi)]; rfl) dst hd
   rw [this]
   congr 2
   simp [strOfNums, strOf, Function.comp_def]
 have hbs : bs = [] := List.eq_nil_of_length_eq_zero (by rw [h.length]; omega)
 subst hbs
 have hl0 : len = 0 := by omega
 subst hl0
 cases a with
 | none => rw [strOf_nil]; exact run_convert_bytes_nil w src e hs he 0 cap dst hd
 | some x =>
  rw [run_convert_bytes_string w src dst e _ 0 cap hs he hd]
  rw [run_bytesToString w _ 0 cap [] (by simp [loadCells]; rfl)]
  simp [strOf_nil]
end
section
open Go.RowKit
structure But (O : Nat → Prop) (w w' : World) : Prop where
 os : w'.os = w.os
 tape : w'.tape = w.tape
 output : w'.output = w.output
 size : w.heap.size ≤ w'.heap.size
 block : ∀ k, k < w.heap.size → ¬ O k → w'.heap[k]? = w.heap[k]?
theorem But.refl (O : Nat → Prop) (w : World) : But O w w := ⟨rfl, rfl, rfl, Nat.le_refl _, fun _ _ _ => rfl⟩
theorem But.of_below {O : Nat → Prop} {w w' : World} (h : Below w.heap.size w w') : But O w w' := ⟨h.os, h.tape, h.output, h.size, fun k hk _ => h.block k hk⟩
theorem But.trans {O O' : Nat → Prop} {a b c : World} (h : But O a b) (k : But O' b c) (hO : ∀ i, O' i → O i ∨ a.heap.size ≤ i) : But O a c :=
 ⟨k.os.trans h.os, k.tape.trans h.tape, k.output.trans h.output, Nat.le_trans h.size k.size, fun i hi hn => (k.block i (Nat.lt_of_lt_of_le hi h.size) (fun ho => by rcases hO i ho with h1 | h1; exact hn h1; omega)).trans (h.block i hi hn)⟩
theorem But.below {O : Nat → Prop} {B : Nat} {w w' : World} (h : But O w w') (hB : B ≤ w.heap.size) (hO : ∀ k, O k → B ≤ k) : Below B w w' :=
 ⟨h.os, h.tape, h.output, h.size, fun k hk => h.block k (by omega) (fun ho => by have := hO k ho; omega)⟩
theorem But.grown {O : Nat → Prop} {w w' : World} {r : Option Nat} (hg : w.grownBy w' r) (hr : ∀ k, r = some k → O k) : But O w w' :=
 ⟨hg.os, hg.tape, hg.output, hg.size, fun k hk hn => hg.block k hk (fun e => hn (hr k e.symm))⟩
theorem But.setCell {O : Nat → Prop} {a w : World} (h : But O a w) {p : Addr} (hp : O p.block ∨ a.heap.size ≤ p.block) (u : Value) : But O a (w.setCell p u) :=
 ⟨h.os, h.tape, h.output, by simpa [World.setCell] using h.size, fun k hk hn => (Below.heap_setCell _ _ _ _ (fun e => by subst e; rcases hp with h1 | h1; exact hn h1; omega)).trans (h.block k hk hn)⟩
theorem But.alloc {O : Nat → Prop} {a w : World} (h : But O a w) (o : Obj) : But O a (w.alloc o) :=
 ⟨h.os, h.tape, h.output, by have := h.size; simp; omega, fun k hk hn => (Below.heap_alloc _ _ _ (by have := h.size; omega)).trans (h.block k hk hn)⟩
theorem But.drew {O : Nat → Prop} {a w : World} (h : But O a w) : But O a w.drew := ⟨h.os, h.tape, h.output, h.size, h.block⟩
theorem But.more {O O' : Nat → Prop} {a b : World} (h : But O a b) (hO : ∀ k, O k → O' k) : But O' a b := ⟨h.os, h.tape, h.output, h.size, fun k hk hn => h.block k hk (fun ho => hn (hO k ho))⟩
theorem Sl.same_ {w w' : World} {a : Option Addr} {n c : Nat} {bs : List Nat} (h : Sl w w.heap.size a n c bs) (hz : w.heap.size ≤ w'.heap.size) (hk : 0 < n → ∀ b o, a = some ⟨b, o, none⟩ → w'.heap[b]? = w.heap[b]?) : Sl w' w'.heap.size a n c bs :=
 ⟨h.length, h.le, h.max, h.byte, h.none_, fun hp => by
  obtain ⟨b, o, e, hlt, hc⟩ := h.at_ hp
  exact ⟨b, o, e, by omega, fun k hk' => (World.cell?_of_block (w := w) (a := ⟨b, o + k, none⟩) (hk hp b o e)).trans (hc k hk')⟩⟩
end
section
section
open Go.RowKit
open Go.Maps
/-! ### maps as read -/
section
variable {H : Type}
def look (D : DataW H) (k : Lit) : Option (DataW H) :=
 match D with
 | .map es => (es.find? fun p => p.1.sameKey k).map (·.2)
 | _ => none
theorem look_put_same {D : DataW H} {k : Lit} (hD : IsMap D) (hk : WideAt.IsKeyLit k) (d : DataW H) : look (D.put k d) k = some d := by
 obtain ⟨es, rfl⟩ := hD
 show ((DataW.insert (k, d) (es.filter fun p => !p.1.sameKey k)).find? (fun p => p.1.sameKey k)).map (·.2) = some d
 rw [find_insert_hit (f := fun p => p.1.sameKey k) (WideAt.sameKey_self hk) _ (fun p hp => by simpa using (List.mem_filter.1 hp).2)]
 rfl
theorem look_put_other {D : DataW H} {k k' : Lit} (hne : k' ≠ k) (d : DataW H) : look (D.put k d) k' = look D k' := by
 cases D <;> try rfl
 rename_i es
 show ((DataW.insert (k, d) (es.filter fun p => !p.1.sameKey k)).find? (fun p => p.1.sameKey k')).map (·.2) = (es.find? (fun p => p.1.sameKey k')).map (·.2)
 rw [find_insert_miss (f := fun p => p.1.sameKey k') (sameKey_ne hne.symm), find_filter_keep (keep_other hne)]
theorem look_del_same {D : DataW H} {k : Lit} : look (D.del k) k = none := by
 cases D <;> try rfl
 rename_i es
 show ((es.filter fun p => !p.1.sameKey k).find? (fun p => p.1.sameKey k)).map (·.2) = none
 rw [List.find?_eq_none.2 (fun p hp => by simpa using (List.mem_filter.1 hp).2)]
 rfl
theorem look_del_other {D : DataW H} {k k' : Lit} (hne : k' ≠ k) : look (D.del k) k' = look D k' := by
 cases D <;> try rfl
 rename_i es
 show ((es.filter fun p => !p.1.sameKey k).find? (fun p => p.1.sameKey k')).map (·.2) = (es.find? (fun p => p.1.sameKey k')).map (·.2)
 rw [find_filter_keep (keep_other hne)]
theorem has_look (D : DataW H) (k : Lit) : has D k = (look D k).isSome := by
 cases D <;> try rfl
 rename_i es
 show es.any (fun p => p.1.sameKey k) = ((es.find? fun p => p.1.sameKey k).map (·.2)).isSome
 rw [Option.isSome_map]
 induction es with
 | nil => rfl
 | cons x r ih => cases hx : x.1.sameKey k <;> simp [hx, ih]
theorem atKey_look (D : DataW H) (k : Lit) (z : DataW H) : D.atKey k z = (look D k).getD z := by
 cases D <;> try rfl
 rename_i es
 show (match es.find? (fun p => p.1.sameKey k) with | some p => p.2 | none => z) = ((es.find? fun p => p.1.sameKey k).map (·.2)).getD z
 cases es.find? (fun p => p.1.sameKey k) <;> rfl
theorem canon_map {D : DataW H} (h : Canon D) : IsMap D := let ⟨es, e, _⟩ := h; ⟨es, e⟩
theorem canon_tidy {D : DataW H} (h : Canon D) : Tidy D := let ⟨es, e, h1, _⟩ := h; ⟨es, e, apart_of_rising h1⟩
theorem look_ext {D E : DataW H} (hD : Canon D) (hE : Canon E) (h : ∀ k, look D k = look E k) : D = E :=
 Maps.ext hD hE (fun k => by rw [has_look, has_look, h]) (fun k z _ => by rw [atKey_look, atKey_look, h])
theorem isKey_str (l : List UInt8) : WideAt.IsKeyLit (.string l) := trivial
theorem canon_del {D : DataW H} (h : Canon D) (k : Lit) : Canon (D.del k) := by
 obtain ⟨es, rfl, h1, h2⟩ := h
 exact ⟨_, rfl, h1.filter _, fun p hp => h2 p (List.mem_filter.1 hp).1⟩
theorem before_total {a b : List UInt8} (h : a ≠ b) : bytesBefore a b = true ∨ bytesBefore b a = true := by
 induction a generalizing b with
 | nil => cases b with
  | nil => exact absurd rfl h
  | cons y s => exact .inl rfl
 | cons x r ih => cases b with
  | nil => exact .inr rfl
  | cons y s =>
   simp only [bytesBefore, Bool.or_eq_true, Bool.and_eq_true, decide_eq_true_eq, beq_iff_eq]
   by_cases hxy : x = y
   · subst hxy
     have : r ≠ s := fun e => h (by rw [e])
     rcases ih this with h' | h'
     · exact .inl (.inr ⟨rfl, h'⟩)
     exact .inr (.inr ⟨rfl, h'⟩)
   have : x.toNat ≠ y.toNat := fun e => hxy (UInt8.toNat_inj.1 e)
   simp only [UInt8.lt_iff_toNat_lt]
   omega
theorem canon_put {D : DataW H} (h : Canon D) (hs : ∀ k, has D k = true → ∃ l, k = .string l) (l : List UInt8) (d : DataW H) : Canon (D.put (.string l) d) := by
 obtain ⟨es, rfl, h1, h2⟩ := h
 have hstr : ∀ p ∈ es, ∃ m, p.1 = .string m := fun p hp => hs p.1 (List.any_eq_true.2 ⟨p, hp, WideAt.sameKey_self (h2 p hp)⟩)
 have O : OneKind (fun k : Lit => ∃ m, k = .string m) := ⟨fun ⟨m, e⟩ => by rw [e]; trivial, fun ⟨m, e⟩ ⟨n, e'⟩ hne => by
  subst e e'
  exact before_total (fun e => hne (by rw [e]))⟩
 refine ⟨_, rfl, insert_sorted O ⟨l, rfl⟩ _ (h1.filter _) (fun p hp => hstr p (List.mem_filter.1 hp).1) (fun p hp e => ?_), fun p hp => ?_⟩
 · have := (List.mem_filter.1 hp).2
   rw [e] at this
   simp [WideAt.sameKey_self (isKey_str l)] at this
 rcases ChangeMaps.mem_insert_iff.1 hp with rfl | hp
 · trivial
 exact h2 p (List.mem_filter.1 hp).1
end
/-! ### files -/
structure Fl where
 bs : List Nat
 l : Nat
def Fl.zero : Fl := ⟨[], 0⟩
abbrev FS := DataW Fl
def fat (D : FS) (k : List UInt8) : Option Fl := match look D (.string k) with | some (.held f) => some f | _ => none
def lenOf : DataW Fl → Nat | .held f => f.bs.length | _ => 0
def tot : FS → Nat
 | .map es => (es.map fun p => lenOf p.2).sum
 | _ => 0
theorem sum_insert (f : Lit × DataW Fl → Nat) (x : Lit × DataW Fl) : ∀ l : List (Lit × DataW Fl), ((DataW.insert x l).map f).sum = f x + (l.map f).sum
 | [] => rfl
 | y :: r => by
  unfold DataW.insert
  split
  · rfl
  simp [sum_insert f x r]; omega
theorem tot_del {D : FS} (hD : Tidy D) (k : Lit) : tot (D.del k) + ((look D k).map lenOf).getD 0 = tot D := by
 obtain ⟨es, rfl, hp⟩ := hD
 show ((es.filter fun p => !p.1.sameKey k).map fun p => lenOf p.2).sum + (((es.find? fun p => p.1.sameKey k).map (·.2)).map lenOf).getD 0 = (es.map fun p => lenOf p.2).sum
 induction es with
 | nil => rfl
 | cons x r ih =>
  obtain ⟨h1, h2⟩ := List.pairwise_cons.1 hp
  cases hx : x.1.sameKey k
  · have := ih h2
    simp [hx] at this ⊢
    omega
  have hno : r.filter (fun p => !p.1.sameKey k) = r := List.filter_eq_self.2 (fun p hp' => by
   cases hs : p.1.sameKey k
   · rfl
   exact absurd ((WideAt.sameKey_eq hx).trans (WideAt.sameKey_eq hs).symm) (h1 p hp'))
  simp [hx, hno]
  omega
theorem put_del {D : FS} (hD : IsMap D) (k : Lit) (d : DataW Fl) : tot (D.put k d) = lenOf d + tot (D.del k) := by
 obtain ⟨es, rfl⟩ := hD
 exact sum_insert (fun p => lenOf p.2) (k, d) _
theorem tot_put {D : FS} (hD : Tidy D) (k : Lit) (d : DataW Fl) : tot (D.put k d) + ((look D k).map lenOf).getD 0 = tot D + lenOf d := by
 have := tot_del hD k
 rw [put_del hD.isMap]
 omega
/-! ### names -/
def chOk (c : Nat) : Bool := decide (97 ≤ c ∧ c ≤ 122) || decide (48 ≤ c ∧ c ≤ 57) || decide (c = 46) || decide (c = 45)
def nmOk (s : List UInt8) : Bool := decide (1 ≤ s.length ∧ s.length ≤ 16) && s.all fun c => chOk c.toNat
structure Good (D : FS) (room : Nat) : Prop where
 canon : Canon D
 room_ : room ≤ 1048576
 tot_ : tot D ≤ room
 size_ : size D ≤ 64
 files : ∀ k d, look D k = some d → ∃ s f, k = .string s ∧ nmOk s = true ∧ d = .held f ∧ f.l ≤ f.bs.length ∧ (∀ c ∈ f.bs, c < 256)
theorem Good.strs {D : FS} {room : Nat} (h : Good D room) : ∀ k, has D k = true → ∃ l, k = .string l := by
 intro k hk
 rw [has_look] at hk
 obtain ⟨d, hd⟩ := Option.isSome_iff_exists.1 hk
 obtain ⟨s, _, e, _⟩ := h.files k d hd
 exact ⟨s, e⟩
theorem Good.look_ {D : FS} {room : Nat} (h : Good D room) (s : List UInt8) : look D (.string s) = (fat D s).map .held := by
 unfold fat
 cases hl : look D (.string s) with
 | none => rfl
 | some d =>
  obtain ⟨_, f, _, _, e, _⟩ := h.files _ d hl
  subst e
  rfl
theorem Good.has_ {D : FS} {room : Nat} (h : Good D room) (s : List UInt8) : has D (.string s) = (fat D s).isSome := by
 rw [has_look, h.look_]
 cases fat D s <;> rfl
theorem Good.at_ {D : FS} {room : Nat} (h : Good D room) {s : List UInt8} {f : Fl} (hf : fat D s = some f) : nmOk s = true ∧ f.l ≤ f.bs.length ∧ (∀ c ∈ f.bs, c < 256) ∧ f.bs.length ≤ tot D := by
 have hl : look D (.string s) = some (.held f) := by rw [h.look_, hf]; rfl
 obtain ⟨s', f', e1, h1, e2, h2, h3⟩ := h.files _ _ hl
 injection e1 with e1
 injection e2 with e2
 subst e1 e2
 refine ⟨h1, h2, h3, ?_⟩
 have := tot_del (canon_tidy h.canon) (.string s)
 rw [hl] at this
 simp [lenOf] at this
 omega
theorem fat_put_same {D : FS} (hD : IsMap D) (s : List UInt8) (f : Fl) : fat (D.put (.string s) (.held f)) s = some f := by
 unfold fat
 rw [look_put_same hD (isKey_str s)]
theorem fat_put_other {D : FS} {s s' : List UInt8} (h : s' ≠ s) (f : Fl) : fat (D.put (.string s) (.held f)) s' = fat D s' := by
 unfold fat
 rw [look_put_other (fun e => h (by injection e))]
theorem fat_del_same {D : FS} (s : List UInt8) : fat (D.del (.string s)) s = none := by
 unfold fat
 rw [look_del_same]
theorem fat_del_other {D : FS} {s s' : List UInt8} (h : s' ≠ s) : fat (D.del (.string s)) s' = fat D s' := by
 unfold fat
 rw [look_del_other (fun e => h (by injection e))]
theorem Good.empty {room : Nat} (h : room ≤ 1048576) : Good (.map []) room :=
 ⟨canon_empty, h, by simp [tot], by simp [size], fun k d hk => by cases hk⟩
theorem Good.del {D : FS} {room : Nat} (h : Good D room) (s : List UInt8) : Good (D.del (.string s)) room := by
 refine ⟨canon_del h.canon _, h.room_, ?_, ?_, fun k d hk => ?_⟩
 · have := tot_del (canon_tidy h.canon) (.string s)
   have := h.tot_
   omega
 · have := size_del (k := .string s) (canon_tidy h.canon)
   have := h.size_
   omega
 by_cases e : k = .string s
 · subst e
   rw [look_del_same] at hk
   cases hk
 rw [look_del_other e] at hk
 exact h.files k d hk
theorem Good.put {D : FS} {room : Nat} (h : Good D room) {s : List UInt8} {f : Fl} (hs : nmOk s = true) (hl : f.l ≤ f.bs.length) (hb : ∀ c ∈ f.bs, c < 256)
 (hsz : (fat D s).isSome = true ∨ size D < 64) (ht : tot D + f.bs.length ≤ room + ((fat D s).getD Fl.zero).bs.length) : Good (D.put (.string s) (.held f)) room := by
 refine ⟨canon_put h.canon h.strs _ _, h.room_, ?_, ?_, fun k d hk => ?_⟩
 · have := tot_put (canon_tidy h.canon) (.string s) (.held f)
   rw [h.look_] at this
   cases hf : fat D s with
   | none => rw [hf] at this ht; simp [lenOf, Fl.zero] at this ht; omega
   | some g => rw [hf] at this ht; simp [lenOf] at this ht; omega
 · rw [size_put (canon_tidy h.canon), h.has_]
   have := h.size_
   cases hf : (fat D s).isSome
   · rw [hf] at hsz
     simp at hsz ⊢
     omega
   simp
   omega
 by_cases e : k = .string s
 · subst e
   rw [look_put_same (canon_map h.canon) (isKey_str s)] at hk
   injection hk with hk
   exact ⟨s, f, rfl, hs, hk.symm, hl, hb⟩
 rw [look_put_other e] at hk
 exact h.files k d hk
/-! ### a map's entries in memory -/
structure Fe where
 a : Option Addr
 n : Nat
 c : Nat
 l : Int
def Fe.zero : Fe := ⟨none, 0, 0, 0⟩
def Fe.sl (f : Fe) : Value := .slice f.a f.n f.c
def Fe.val (f : Fe) : Value := .agg #[.slice f.a f.n f.c, .int .i64 f.l]
def rdF : Value → Option (DataW Fe × List MemPlace)
 | .agg cs => match cs.toList with
  | [.slice a n c, .int .i64 l] => some (.held ⟨a, n, c, l⟩, [])
  | _ => none
 | _ => none
theorem rdF_val (f : Fe) : rdF f.val = some (.held f, []) := rfl
theorem rdF_inv {v : Value} {z : DataW Fe × List MemPlace} (h : rdF v = some z) : ∃ f : Fe, v = f.val ∧ z = (.held f, []) := by
 unfold rdF at h
 split at h
 · rename_i cs
   split at h
   · rename_i a n c l he
     injection h with h
     refine ⟨⟨a, n, c, l⟩, ?_, h.symm⟩
     show Value.agg cs = Value.agg #[.slice a n c, .int .i64 l]
     rw [← he]
   cases h
 cases h
def cat (C : DataW Fe) (k : Lit) : Fe := match look C k with | some (.held f) => f | _ => Fe.zero
def FRel (w : World) : Option (DataW Fe) → Option (DataW Fl) → Prop
 | none, none => True
 | some (.held f), some (.held g) => f.l = (g.l : Int) ∧ OwnB w 0 5 f.sl g.bs
 | _, _ => False
theorem FRel.mono {w w' : World} {a : Option (DataW Fe)} {b : Option (DataW Fl)} (h : FRel w a b) (hk : ∀ f g, a = some (.held f) → f.sl.ownBlock = some g → w'.heap[g]? = w.heap[g]?) : FRel w' a b := by
 match a, b, h with
 | none, none, _ => exact trivial
 | some (.held f), some (.held g), h =>
  refine ⟨h.1, h.2.1, ?_⟩
  rcases h.2.2 with h1 | ⟨gg, cap, cur, e, h1, h2, h3⟩
  · exact .inl h1
  exact .inr ⟨gg, cap, cur, e, h1, (hk f gg rfl (by rw [e]; rfl)).trans h2, h3⟩
structure Files (w : World) (mb dp : Nat) (C : DataW Fe) (D : FS) (O : Nat → Prop) : Prop where
 owns : w.ownsMap Tryz.prog 9 rdF mb (size C) C
 at_ : ∀ k, FRel w (look C k) (look D k)
 apart : ∀ k k' f f' g, look C k = some (.held f) → look C k' = some (.held f') → f.sl.ownBlock = some g → f'.sl.ownBlock = some g → k = k'
 inO : O mb
 fileO : ∀ k f g, look C k = some (.held f) → f.sl.ownBlock = some g → O g ∧ g ≠ mb ∧ g ≠ dp
 lt : ∀ k, O k → k < w.heap.size
structure DskC (w : World) (dp mb : Nat) (C : DataW Fe) (D : FS) (room : Nat) (fuse fails : Int) (O : Nat → Prop) : Prop where
 cells : w.heap[dp]? = some (.cells #[.map (some mb), .int .i64 (room : Int), .int .i64 fuse, .int .i64 fails] 72 (0, 0))
 files : Files w mb dp C D O
 good : Good D room
 dpO : O dp
 fuse_ : -1 ≤ fuse ∧ fuse ≤ 9223372036854775807
 fails_ : 0 ≤ fails ∧ fails ≤ 9223372036854775807
def Dsk (w : World) (dp : Nat) (D : FS) (room : Nat) (fuse fails : Int) (O : Nat → Prop) : Prop := ∃ mb C, DskC w dp mb C D room fuse fails O
theorem Files.same {w w' : World} {mb dp : Nat} {C : DataW Fe} {D : FS} {O : Nat → Prop} (h : Files w mb dp C D O) (hk : ∀ k, O k → w'.heap[k]? = w.heap[k]?) (hz : w.heap.size ≤ w'.heap.size) : Files w' mb dp C D O := by
 refine ⟨?_, fun k => (h.at_ k).mono (fun f g hf hg => hk g (h.fileO k f g hf hg).1), h.apart, h.inO, h.fileO, fun k ho => Nat.lt_of_lt_of_le (h.lt k ho) hz⟩
 obtain ⟨es, clock, hb, F, hs, hD⟩ := h.owns
 exact ⟨es, clock, (hk mb h.inO).trans hb, F, hs, hD⟩
theorem DskC.same {w w' : World} {dp mb : Nat} {C : DataW Fe} {D : FS} {room : Nat} {fuse fails : Int} {O : Nat → Prop} (h : DskC w dp mb C D room fuse fails O) (hk : ∀ k, O k → w'.heap[k]? = w.heap[k]?) (hz : w.heap.size ≤ w'.heap.size) : DskC w' dp mb C D room fuse fails O :=
 ⟨(hk dp h.dpO).trans h.cells, h.files.same hk hz, h.good, h.dpO, h.fuse_, h.fails_⟩
theorem Dsk.same {w w' : World} {dp : Nat} {D : FS} {room : Nat} {fuse fails : Int} {O : Nat → Prop} (h : Dsk w dp D room fuse fails O) (hk : ∀ k, O k → w'.heap[k]? = w.heap[k]?) (hz : w.heap.size ≤ w'.heap.size) : Dsk w' dp D room fuse fails O :=
 let ⟨mb, C, h⟩ := h; ⟨mb, C, h.same hk hz⟩
theorem DskC.lt {w : World} {dp mb : Nat} {C : DataW Fe} {D : FS} {room : Nat} {fuse fails : Int} {O : Nat → Prop} (h : DskC w dp mb C D room fuse fails O) : ∀ k, O k → k < w.heap.size := h.files.lt
theorem Dsk.lt {w : World} {dp : Nat} {D : FS} {room : Nat} {fuse fails : Int} {O : Nat → Prop} (h : Dsk w dp D room fuse fails O) : ∀ k, O k → k < w.heap.size := let ⟨_, _, h⟩ := h; h.lt
theorem Dsk.good {w : World} {dp : Nat} {D : FS} {room : Nat} {fuse fails : Int} {O : Nat → Prop} (h : Dsk w dp D room fuse fails O) : Good D room := let ⟨_, _, h⟩ := h; h.good
theorem DskC.below {w w' : World} {dp mb : Nat} {C : DataW Fe} {D : FS} {room : Nat} {fuse fails : Int} {O : Nat → Prop} (h : DskC w dp mb C D room fuse fails O) (hb : Below w.heap.size w w') : DskC w' dp mb C D room fuse fails O :=
 h.same (fun k hk => hb.block k (h.lt k hk)) hb.size
theorem Dsk.below {w w' : World} {dp : Nat} {D : FS} {room : Nat} {fuse fails : Int} {O : Nat → Prop} (h : Dsk w dp D room fuse fails O) (hb : Below w.heap.size w w') : Dsk w' dp D room fuse fails O :=
 h.same (fun k hk => hb.block k (h.lt k hk)) hb.size
theorem Dsk.but {w w' : World} {dp : Nat} {D : FS} {room : Nat} {fuse fails : Int} {O P : Nat → Prop} (h : Dsk w dp D room fuse fails O) (hb : But P w w') (hno : ∀ k, O k → ¬ P k) : Dsk w' dp D room fuse fails O :=
 h.same (fun k hk => hb.block k (h.lt k hk) (hno k hk)) hb.size
theorem DskC.cell {w : World} {dp mb : Nat} {C : DataW Fe} {D : FS} {room : Nat} {fuse fails : Int} {O : Nat → Prop} (h : DskC w dp mb C D room fuse fails O) :
 w.cell? ⟨dp, 0, none⟩ = some (.map (some mb)) ∧ w.cell? ⟨dp, 1, none⟩ = some (.int .i64 (room : Int)) ∧ w.cell? ⟨dp, 2, none⟩ = some (.int .i64 fuse) ∧ w.cell? ⟨dp, 3, none⟩ = some (.int .i64 fails) ∧ (∀ j, w.frozen? ⟨dp, j, none⟩ = false) :=
 ⟨(cell_of_row w dp 0 _ _ _ h.cells).trans rfl, (cell_of_row w dp 1 _ _ _ h.cells).trans rfl, (cell_of_row w dp 2 _ _ _ h.cells).trans rfl, (cell_of_row w dp 3 _ _ _ h.cells).trans rfl, fun j => frozen_of_row w dp j _ _ h.cells⟩
theorem law9 : Keyed Tryz.prog 9 := string_keyed Tryz.underlying9
theorem Files.key {s : ByteArray} (hs : s.size ≤ maxLen) : keyOf Tryz.prog 9 (.string s) = some (.string s.data.toList) := WideMaps.keyOf_string_mk Tryz.underlying9 hs
theorem Files.canon {w : World} {mb dp : Nat} {C : DataW Fe} {D : FS} {O : Nat → Prop} (h : Files w mb dp C D O) : Canon C := h.owns.canon law9
theorem Files.has_ {w : World} {mb dp : Nat} {C : DataW Fe} {D : FS} {O : Nat → Prop} (h : Files w mb dp C D O) (k : Lit) : has C k = has D k := by
 rw [has_look, has_look]
 have := h.at_ k
 match hc : look C k, hd : look D k with
 | none, none => rfl
 | some _, some _ => rfl
 | none, some _ => rw [hc, hd] at this; exact this.elim
 | some x, none => rw [hc, hd] at this; cases x <;> exact this.elim
end
section
open Go.RowKit
open Go.Maps
theorem inName_any (c : Nat) (hc : c < 256) (w : World) : Calls Tryz.prog 169 #[.int .u8 (c : Int)] w fun e w' => e = .returned (.bool (chOk c)) ∧ w = w' := by
 have Hc := Qh hc
 clear hc
 go_enter Tryz.func169, Tryz.ntmps169
 go_wp2
 all_goals
  go_ret
  refine ⟨ret_bool ?_, rfl⟩
  unfold chOk
  rw [Bool.eq_iff_iff]
  simp
  try omega
theorem isName_any (s : ByteArray) (hs : s.size ≤ maxLen) (w : World) : Calls Tryz.prog 113 #[.string s] w fun e w' => e = .returned (.bool (nmOk s.data.toList)) ∧ w = w' := by
 unfold maxLen at hs
 have hlen : s.data.toList.length = s.size := by simp
 by_cases h1 : 1 ≤ s.size
 · by_cases h16 : s.size ≤ 16
   · have Hn : Hid (nmOk s.data.toList = s.data.toList.all fun c => chOk c.toNat) := by
      show _ = _
      unfold nmOk
      rw [hlen]
      simp [h1, h16]
     go_enter Tryz.func113, Tryz.ntmps113
     go_wp2_with fail
     go_loop [14] (fun i => ∃ k : Nat, k ≤ s.size ∧ i = .int .i64 k ∧ ((s.data.toList.take k).all fun c => chOk c.toNat) = true) (fun i => s.size - (intOf i).toNat)
     case atStart => exact ⟨0, Nat.zero_le _, rfl, rfl⟩
     case round =>
      obtain ⟨k, hk, rfl, hall⟩ := hrel
      by_cases hlt : k < s.size
      · have hts : s.data.toList.take (k + 1) = s.data.toList.take k ++ [s[k]] := by
         rw [List.take_succ_eq_append_getElem (by simpa using hlt)]; rfl
        have IN := Qh (inName_any s[k].toNat s[k].toNat_lt)
        have Ha : Hid (((s.data.toList.take (k + 1)).all fun c => chOk c.toNat) = chOk s[k].toNat) := by
         show _ = _
         rw [hts, List.all_append, hall]; simp
        have Hf : Hid (chOk s[k].toNat = false → (s.data.toList.all fun c => chOk c.toNat) = false) := by
         intro hf
         rw [List.all_eq_false]
         exact ⟨s[k], by have : s[k] = s.data.toList[k]'(by simpa using hlt) := rfl
                         rw [this]; exact List.getElem_mem _, by simp [hf]⟩
        clear hts hall
        cases hb : chOk s[k].toNat
        · rw [hb] at Ha
          have Hf := Hf.out hb
          rw [hb] at IN
          have Hr := Qh (Hn.out.trans Hf)
          clear hb Ha Hn Hf
          go_wp2_with (go_at_call 169; refine (IN.out _).mono ?_; rintro e w' ⟨rfl, rfl⟩)
          go_ret
          exact ⟨ret_bool Hr.out.symm, rfl⟩
        have Ha := Qh (Ha.out.trans hb)
        rw [hb] at IN
        clear hb Hf
        go_wp2_with (go_at_call 169; refine (IN.out _).mono ?_; rintro e w' ⟨rfl, rfl⟩)
        go_round
        case rel => exact ⟨k + 1, by omega, by go_num, Ha.out⟩
        case measure => simp [intOf]; omega
      have hkn : k = s.size := by omega
      subst hkn
      rw [List.take_of_length_le (by simp)] at hall
      have Hr := Qh (Hn.out.trans hall)
      clear hall Hn
      go_wp2
      go_ret
      exact ⟨ret_bool Hr.out.symm, rfl⟩
   have Hn : Hid (nmOk s.data.toList = false) := by
    show _ = _
    unfold nmOk
    rw [hlen]
    simp [h16]
   go_enter Tryz.func113, Tryz.ntmps113
   go_wp2
   go_ret
   exact ⟨ret_bool Hn.out.symm, rfl⟩
 have h0 : s.size = 0 := by omega
 have Hn : Hid (nmOk s.data.toList = false) := by
  show _ = _
  unfold nmOk
  rw [hlen]
  simp [h1]
 have h1' : s.size < 1 := by omega
 clear hlen
 go_enter Tryz.func113, Tryz.ntmps113
 go_wp2
 go_ret
 exact ⟨ret_bool Hn.out.symm, rfl⟩
end
end
section
section
open Go.RowKit
open Go.Maps
theorem But.cell {O : Nat → Prop} {w w' : World} (h : But O w w') {b o : Nat} (hb : b < w.heap.size) (hn : ¬ O b) : w'.cell? ⟨b, o, none⟩ = w.cell? ⟨b, o, none⟩ := World.cell?_of_block (w := w) (a := ⟨b, o, none⟩) (h.block b hb hn)
theorem But.frozen {O : Nat → Prop} {w w' : World} (h : But O w w') {b o : Nat} (hb : b < w.heap.size) (hn : ¬ O b) : w'.frozen? ⟨b, o, none⟩ = w.frozen? ⟨b, o, none⟩ := World.frozen?_of_block (w := w) (a := ⟨b, o, none⟩) (h.block b hb hn)
def keysL {H : Type} : DataW H → List Lit
 | .map es => es.map (·.1)
 | _ => []
theorem keysL_mem {H : Type} {D : DataW H} (h : Canon D) (k : Lit) : k ∈ keysL D ↔ has D k = true := by
 obtain ⟨es, rfl, _, hk⟩ := h
 show k ∈ es.map (·.1) ↔ es.any (fun p => p.1.sameKey k) = true
 rw [List.mem_map, List.any_eq_true]
 constructor
 · rintro ⟨p, hp, rfl⟩
   exact ⟨p, hp, WideAt.sameKey_self (hk p hp)⟩
 rintro ⟨p, hp, hs⟩
 exact ⟨p, hp, WideAt.sameKey_eq hs⟩
theorem keysL_sorted {H : Type} {D : DataW H} (h : Canon D) : (keysL D).Pairwise (fun a b => a.before b = true) := by
 obtain ⟨es, rfl, h1, _⟩ := h
 exact List.pairwise_map.2 h1
theorem sorted_eq : ∀ {l₁ l₂ : List Lit}, l₁.Pairwise (fun p q => p.before q = true) → l₂.Pairwise (fun p q => p.before q = true) → (∀ p, p ∈ l₁ ↔ p ∈ l₂) → l₁ = l₂
 | [], [], _, _, _ => rfl
 | [], b :: s, _, _, h => by have := (h b).2 (by simp); simp at this
 | a :: r, [], _, _, h => by have := (h a).1 (by simp); simp at this
 | a :: r, b :: s, h1, h2, h => by
  obtain ⟨a1, a2⟩ := List.pairwise_cons.1 h1
  obtain ⟨b1, b2⟩ := List.pairwise_cons.1 h2
  have irr : ∀ {x y : Lit}, x.before y = true → y.before x = true → False := fun {x y} h h' => by
   have := WideShapes.before_trans h h'
   rw [WideShapes.before_irrefl] at this
   cases this
  have hab : a = b := by
   rcases List.mem_cons.1 ((h a).1 (by simp)) with e | ha
   · exact e
   rcases List.mem_cons.1 ((h b).2 (by simp)) with e | hb
   · exact e.symm
   exact (irr (a1 b hb) (b1 a ha)).elim
  subst hab
  rw [sorted_eq a2 b2 (fun p => ⟨fun hp => by
   rcases List.mem_cons.1 ((h p).1 (by simp [hp])) with e | hp'
   · subst e; exact (irr (a1 p hp) (a1 p hp)).elim
   · exact hp', fun hp => by
   rcases List.mem_cons.1 ((h p).2 (by simp [hp])) with e | hp'
   · subst e; exact (irr (b1 p hp) (b1 p hp)).elim
   exact hp'⟩)]
theorem keysL_eq {H H' : Type} {C : DataW H} {D : DataW H'} (hC : Canon C) (hD : Canon D) (h : ∀ k, has C k = has D k) : keysL C = keysL D :=
 sorted_eq (keysL_sorted hC) (keysL_sorted hD) (fun k => by rw [keysL_mem hC, keysL_mem hD, h])
theorem size_keysL {H : Type} (D : DataW H) : size D = (keysL D).length := by cases D <;> simp [size, keysL]
theorem strKeys_keysL {H : Type} (D : DataW H) : strKeys D = (keysL D).map Go.strOf := by cases D <;> simp [strKeys, keysL]
theorem zero_file (w : World) : (zeroValue 105).run Tryz.prog w = .ok Fe.zero.val w := by kernel_rfl
theorem look_held {w : World} {mb dp : Nat} {C : DataW Fe} {D : FS} {O : Nat → Prop} (h : Files w mb dp C D O) (k : Lit) : C.atKey k (.held Fe.zero) = .held (cat C k) := by
 rw [atKey_look]
 unfold cat
 have := h.at_ k
 match hc : look C k, hd : look D k with
 | none, _ => rfl
 | some (.held f), _ => rfl
 | some (.lit _), none | some .nil, none | some (.ptr _), none | some (.slice _ _), none | some (.agg _), none | some (.iface _ _), none | some (.map _), none => rw [hc, hd] at this; exact this.elim
 | some (.lit _), some _ | some .nil, some _ | some (.ptr _), some _ | some (.slice _ _), some _ | some (.agg _), some _ | some (.iface _ _), some _ | some (.map _), some _ => rw [hc, hd] at this; exact this.elim
section
variable {w : World} {mb dp : Nat} {C : DataW Fe} {D : FS} {O : Nat → Prop}
theorem Files.keys_ (h : Files w mb dp C D O) (hD : Canon D) : keysL C = keysL D := keysL_eq h.canon hD h.has_
theorem Files.size_ (h : Files w mb dp C D O) (hD : Canon D) : size C = size D := by rw [size_keysL, size_keysL, h.keys_ hD]
theorem Files.cat_ (h : Files w mb dp C D O) (s : List UInt8) (f : Fl) (hf : fat D s = some f) : look C (.string s) = some (.held (cat C (.string s))) ∧ (cat C (.string s)).l = (f.l : Int) ∧ OwnB w 0 5 (cat C (.string s)).sl f.bs := by
 have := h.at_ (.string s)
 unfold fat at hf
 unfold cat
 match hc : look C (.string s), hd : look D (.string s) with
 | none, some _ => rw [hc, hd] at this; exact this.elim
 | _, none => rw [hd] at hf; cases hf
 | some (.held g), some (.held f') =>
  rw [hd] at hf
  injection hf with hf
  subst hf
  rw [hc, hd] at this
  exact ⟨rfl, this⟩
 | some (.held _), some (.lit _) | some (.held _), some .nil | some (.held _), some (.ptr _) | some (.held _), some (.slice _ _) | some (.held _), some (.agg _) | some (.held _), some (.iface _ _) | some (.held _), some (.map _) => rw [hd] at hf; cases hf
 | some (.lit _), some _ | some .nil, some _ | some (.ptr _), some _ | some (.slice _ _), some _ | some (.agg _), some _ | some (.iface _ _), some _ | some (.map _), some _ => rw [hc, hd] at this; exact this.elim
theorem Files.cat_none (h : Files w mb dp C D O) {room : Nat} (hG : Good D room) (s : List UInt8) (hf : fat D s = none) : look C (.string s) = none ∧ cat C (.string s) = Fe.zero := by
 have h1 : look C (.string s) = none := by
  have h2 := h.has_ (.string s)
  rw [hG.has_, hf, has_look] at h2
  cases hl : look C (.string s) with
  | none => rfl
  | some _ => rw [hl] at h2; cases h2
 exact ⟨h1, by unfold cat; rw [h1]⟩
theorem Files.run_look (h : Files w mb dp C D O) {s : ByteArray} (hs : s.size ≤ maxLen) (w' : World) (hw : w'.heap[mb]? = w.heap[mb]?) :
 (Instr.lookup 70 (.map (some mb)) (.string s) false).run Tryz.prog w' = .ok (cat C (.string s.data.toList)).val w' ∧
 (Instr.lookup 70 (.map (some mb)) (.string s) true).run Tryz.prog w' = .ok (.tuple #[(cat C (.string s.data.toList)).val, .bool (has C (.string s.data.toList))]) w' := by
 obtain ⟨es, clock, hb, F, hsz, hD⟩ := h.owns
 have own : w'.ownsMap Tryz.prog 9 rdF mb (size C) C := ⟨es, clock, hw.trans hb, F, hsz, hD⟩
 obtain ⟨v, ps, h1, h2⟩ := own.lookup law9 Tryz.underlying70 (zero_file w') (rdF_val Fe.zero) (Files.key hs)
 obtain ⟨v', ps', h1', h2'⟩ := own.look_ok law9 Tryz.underlying70 (zero_file w') (rdF_val Fe.zero) (Files.key hs)
 rw [look_held h] at h2 h2'
 obtain ⟨f, rfl, e⟩ := rdF_inv h2
 obtain ⟨f', rfl, e'⟩ := rdF_inv h2'
 simp only [Prod.mk.injEq, DataW.held.injEq] at e e'
 rw [← e.1] at h1
 rw [← e'.1] at h1'
 exact ⟨h1, h1'⟩
theorem Files.run_len (h : Files w mb dp C D O) (w' : World) (hw : w'.heap[mb]? = w.heap[mb]?) (hC : Canon D) (ty : TypeId) : (Builtin.len_ #[70] ty #[.map (some mb)]).run Tryz.prog w' = .ok (.int .i64 (size D : Nat)) w' := by
 obtain ⟨es, clock, hb, F, hsz, hD⟩ := h.owns
 have own : w'.ownsMap Tryz.prog 9 rdF mb (size C) C := ⟨es, clock, hw.trans hb, F, hsz, hD⟩
 rw [own.len Tryz.underlying70 ty, h.size_ hC]
end
end
section
open Go.RowKit
open Go.Maps
attribute [local go_sem] Oper.semAt_some
theorem owns_tight {w : World} {C : DataW Fe} {b n : Nat} (h : w.ownsMap Tryz.prog 9 rdF b n C) : w.ownsMap Tryz.prog 9 rdF b (size C) C := by
 obtain ⟨es, clock, hb, F, hs, rfl⟩ := h
 exact ⟨es, clock, hb, F, by simp [size, length_sorted], rfl⟩
theorem dsk_new (w : World) (room : Nat) (hr : room ≤ 1048576) :
 Dsk ((w.alloc (.map #[] 0)).alloc (.cells #[.map (some w.heap.size), .int .i64 (room : Int), .int .i64 (-1), .int .i64 0] 72)) (w.heap.size + 1) (.map []) room (-1) 0 (fun k => k = w.heap.size ∨ k = w.heap.size + 1) := by
 have h1 : (w.alloc (.map #[] 0)).heap.size = w.heap.size + 1 := by simp
 refine ⟨w.heap.size, .map [], ⟨by rw [← h1]; exact heap_alloc_new _ _, ⟨?_, fun k => trivial, fun k k' f f' g h => by (cases h), .inl rfl, fun k f g h => by (cases h), fun k hk => by simp; omega⟩, Good.empty hr, .inr rfl, ⟨by decide, by decide⟩, ⟨by decide, by decide⟩⟩⟩
 exact World.ownsMap.alloc (World.ownsMap_made w Tryz.prog 9 rdF) _
section
variable {w : World} {dp mb room : Nat} {C : DataW Fe} {D : FS} {fuse fails : Int} {O : Nat → Prop}
theorem DskC.ne (h : DskC w dp mb C D room fuse fails O) : dp ≠ mb := by
 intro e
 obtain ⟨es, clock, hb, _⟩ := h.files.owns
 rw [← e, h.cells] at hb
 cases hb
theorem DskC.set_ (h : DskC w dp mb C D room fuse fails O) (j : Nat) (u : Value) {fuse' fails' : Int} (hc : ((#[.map (some mb), .int .i64 (room : Int), .int .i64 fuse, .int .i64 fails] : Array Value).setIfInBounds j u) = #[.map (some mb), .int .i64 (room : Int), .int .i64 fuse', .int .i64 fails'])
 (hf : -1 ≤ fuse' ∧ fuse' ≤ 9223372036854775807) (hl : 0 ≤ fails' ∧ fails' ≤ 9223372036854775807) : DskC (w.setCell ⟨dp, j, none⟩ u) dp mb C D room fuse' fails' O := by
 have hs := heap_setCell_same w dp j _ _ u h.cells
 rw [hc] at hs
 have hoth : ∀ k, k ≠ dp → (w.setCell ⟨dp, j, none⟩ u).heap[k]? = w.heap[k]? := fun k hk => Below.heap_setCell w ⟨dp, j, none⟩ u k hk
 have F := h.files
 refine ⟨hs, ⟨?_, fun k => (F.at_ k).mono (fun f g hf hg => hoth g (F.fileO k f g hf hg).2.2), F.apart, F.inO, F.fileO, fun k ho => by simpa [World.setCell] using F.lt k ho⟩, h.good, h.dpO, hf, hl⟩
 obtain ⟨es, clock, hb, F', hsz, hD⟩ := F.owns
 exact ⟨es, clock, (hoth mb (fun e => h.ne e.symm)).trans hb, F', hsz, hD⟩
end
structure DskX (w : World) (dp mb : Nat) (C : DataW Fe) (D : FS) (room : Nat) (fuse fails : Int) (O : Nat → Prop) (s : List UInt8) : Prop where
 cells : w.heap[dp]? = some (.cells #[.map (some mb), .int .i64 (room : Int), .int .i64 fuse, .int .i64 fails] 72 (0, 0))
 owns : w.ownsMap Tryz.prog 9 rdF mb (size C) C
 has_ : ∀ k, has C k = has D k
 at_ : ∀ k, k ≠ .string s → FRel w (look C k) (look D k)
 apart : ∀ k k' f f' g, look C k = some (.held f) → look C k' = some (.held f') → f.sl.ownBlock = some g → f'.sl.ownBlock = some g → k = k'
 inO : O mb
 fileO : ∀ k f g, look C k = some (.held f) → f.sl.ownBlock = some g → O g ∧ g ≠ mb ∧ g ≠ dp
 lt : ∀ k, O k → k < w.heap.size
 good : Good D room
 dpO : O dp
 fuse_ : -1 ≤ fuse ∧ fuse ≤ 9223372036854775807
 fails_ : 0 ≤ fails ∧ fails ≤ 9223372036854775807
section
variable {w : World} {dp mb room : Nat} {C : DataW Fe} {D : FS} {fuse fails : Int} {O : Nat → Prop} {s : List UInt8}
theorem DskC.x (h : DskC w dp mb C D room fuse fails O) (s : List UInt8) : DskX w dp mb C D room fuse fails O s :=
 ⟨h.cells, h.files.owns, h.files.has_, fun k _ => h.files.at_ k, h.files.apart, h.files.inO, h.files.fileO, h.files.lt, h.good, h.dpO, h.fuse_, h.fails_⟩
theorem DskX.ne (h : DskX w dp mb C D room fuse fails O s) : dp ≠ mb := by
 intro e
 obtain ⟨es, clock, hb, _⟩ := h.owns
 rw [← e, h.cells] at hb
 cases hb
theorem DskX.size_ (h : DskX w dp mb C D room fuse fails O s) : size C = size D := by rw [size_keysL, size_keysL, keysL_eq (h.owns.canon law9) h.good.canon h.has_]
theorem DskX.cell (h : DskX w dp mb C D room fuse fails O s) : w.cell? ⟨dp, 0, none⟩ = some (.map (some mb)) := (cell_of_row w dp 0 _ _ _ h.cells).trans rfl
theorem DskX.same {w' : World} (h : DskX w dp mb C D room fuse fails O s) (hk : ∀ k, O k → (∀ f, look C (.string s) = some (.held f) → f.sl.ownBlock ≠ some k) → w'.heap[k]? = w.heap[k]?) (hz : w.heap.size ≤ w'.heap.size) : DskX w' dp mb C D room fuse fails O s := by
 have h1 : w'.heap[mb]? = w.heap[mb]? := hk mb h.inO (fun f hf hb => (h.fileO _ f mb hf hb).2.1 rfl)
 have h2 : w'.heap[dp]? = w.heap[dp]? := hk dp h.dpO (fun f hf hb => (h.fileO _ f dp hf hb).2.2 rfl)
 refine ⟨h2.trans h.cells, ?_, h.has_, fun k hne => (h.at_ k hne).mono (fun f g hf hg => hk g (h.fileO k f g hf hg).1 (fun f' hf' hb' => hne (h.apart k _ f f' g hf hf' hg hb'))), h.apart, h.inO, h.fileO, fun k ho => Nat.lt_of_lt_of_le (h.lt k ho) hz, h.good, h.dpO, h.fuse_, h.fails_⟩
 obtain ⟨es, clock, hb, F, hs, hD⟩ := h.owns
 exact ⟨es, clock, h1.trans hb, F, hs, hD⟩
theorem DskX.below {w' : World} (h : DskX w dp mb C D room fuse fails O s) (hb : Below w.heap.size w w') : DskX w' dp mb C D room fuse fails O s := h.same (fun k hk _ => hb.block k (h.lt k hk)) hb.size
theorem DskX.laid (h : DskX w dp mb C D room fuse fails O s) {w' : World} {f : Fe} {g : Fl} {n : Nat} (hg : w.grownBy w' (some mb)) (hO : w'.ownsMap Tryz.prog 9 rdF mb n (C.put (.string s) (.held f)))
 (hl : f.l = (g.l : Int)) (ho : OwnB w 0 5 f.sl g.bs) (hap : ∀ k f' b, k ≠ .string s → look C k = some (.held f') → f.sl.ownBlock = some b → f'.sl.ownBlock ≠ some b)
 (hb : ∀ b, f.sl.ownBlock = some b → b ≠ mb ∧ b ≠ dp) (hG : Good (D.put (.string s) (.held g)) room) :
 DskC w' dp mb (C.put (.string s) (.held f)) (D.put (.string s) (.held g)) room fuse fails (fun k => O k ∨ f.sl.ownBlock = some k) := by
 have hoth : ∀ k, k < w.heap.size → k ≠ mb → w'.heap[k]? = w.heap[k]? := fun k hk hne => hg.block k hk (fun e => hne (by injection e))
 have hCm := canon_map (h.owns.canon law9)
 have hDm := canon_map h.good.canon
 refine ⟨(hoth dp (h.lt dp h.dpO) h.ne).trans h.cells, ⟨owns_tight hO, fun k => ?_, fun k k' f1 f2 b h1 h2 b1 b2 => ?_, .inl h.inO, fun k f1 b h1 b1 => ?_, fun k hk => ?_⟩, hG, .inl h.dpO, h.fuse_, h.fails_⟩
 · by_cases e : k = .string s
   · subst e
     rw [look_put_same hCm (isKey_str s), look_put_same hDm (isKey_str s)]
     exact FRel.mono (w := w) (a := some (.held f)) (b := some (.held g)) ⟨hl, ho⟩ (fun f1 b e1 hb1 => by
      injection e1 with e1
      injection e1 with e1
      subst e1
      exact hoth b (ho.at_base hb1).2 (hb b hb1).1)
   rw [look_put_other e, look_put_other e]
   exact (h.at_ k e).mono (fun f1 b h1 hb1 => hoth b (h.lt b (h.fileO k f1 b h1 hb1).1) (h.fileO k f1 b h1 hb1).2.1)
 · by_cases e : k = .string s
   · by_cases e' : k' = .string s
     · rw [e, e']
     subst e
     rw [look_put_same hCm (isKey_str s)] at h1
     rw [look_put_other e'] at h2
     injection h1 with h1
     injection h1 with h1
     subst h1
     exact absurd b2 (hap k' f2 b e' h2 b1)
   by_cases e' : k' = .string s
   · subst e'
     rw [look_put_same hCm (isKey_str s)] at h2
     rw [look_put_other e] at h1
     injection h2 with h2
     injection h2 with h2
     subst h2
     exact absurd b1 (hap k f1 b e h1 b2)
   rw [look_put_other e] at h1
   rw [look_put_other e'] at h2
   exact h.apart k k' f1 f2 b h1 h2 b1 b2
 · by_cases e : k = .string s
   · subst e
     rw [look_put_same hCm (isKey_str s)] at h1
     injection h1 with h1
     injection h1 with h1
     subst h1
     exact ⟨.inr b1, hb b b1⟩
   rw [look_put_other e] at h1
   exact ⟨.inl (h.fileO k f1 b h1 b1).1, (h.fileO k f1 b h1 b1).2⟩
 rcases hk with hk | hk
 · exact Nat.lt_of_lt_of_le (h.lt k hk) hg.size
 exact Nat.lt_of_lt_of_le (ho.at_base hk).2 hg.size
theorem DskC.gone (h : DskC w dp mb C D room fuse fails O) {w' : World} (s : List UInt8) {n : Nat} (hg : w.grownBy w' (some mb)) (hO : w'.ownsMap Tryz.prog 9 rdF mb n (C.del (.string s))) :
 DskC w' dp mb (C.del (.string s)) (D.del (.string s)) room fuse fails O := by
 have hoth : ∀ k, k < w.heap.size → k ≠ mb → w'.heap[k]? = w.heap[k]? := fun k hk hne => hg.block k hk (fun e => hne (by injection e))
 have F := h.files
 refine ⟨(hoth dp (h.lt dp h.dpO) h.ne).trans h.cells, ⟨owns_tight hO, fun k => ?_, fun k k' f1 f2 b h1 h2 b1 b2 => ?_, F.inO, fun k f1 b h1 b1 => ?_, fun k hk => Nat.lt_of_lt_of_le (F.lt k hk) hg.size⟩, h.good.del s, h.dpO, h.fuse_, h.fails_⟩
 · by_cases e : k = .string s
   · subst e
     rw [look_del_same, look_del_same]
     trivial
   rw [look_del_other e, look_del_other e]
   exact (F.at_ k).mono (fun f1 b h1 hb1 => hoth b (F.lt b (F.fileO k f1 b h1 hb1).1) (F.fileO k f1 b h1 hb1).2.1)
 · by_cases e : k = .string s
   · subst e; rw [look_del_same] at h1; cases h1
   by_cases e' : k' = .string s
   · subst e'; rw [look_del_same] at h2; cases h2
   rw [look_del_other e] at h1
   rw [look_del_other e'] at h2
   exact F.apart k k' f1 f2 b h1 h2 b1 b2
 by_cases e : k = .string s
 · subst e; rw [look_del_same] at h1; cases h1
 rw [look_del_other e] at h1
 exact F.fileO k f1 b h1 b1
end
theorem dkclone_any (s : ByteArray) (hs : s.size ≤ 281474976710656) (w : World) : Calls Tryz.prog 128 #[.string s] w fun e w' => e = .returned (.string s) ∧ Below w.heap.size w w' := by
 have C := Qh (Tryz.stringslite_Clone s w hs)
 clear hs
 go_enter Tryz.func128, Tryz.ntmps128
 go_wp2_with fail
 refine C.out.mono ?_
 rintro e w' ⟨rfl, hb⟩
 have H := Qh hb
 clear hb C
 go_wp2
 go_ret
 exact ⟨rfl, H.out⟩
def LaidD (w : World) (dp mb room : Nat) (C : DataW Fe) (D : FS) (fuse fails : Int) (O : Nat → Prop) (s : List UInt8) (f : Fe) (g : Fl) (e : Ending) (w' : World) : Prop :=
 e = .returned (.tuple #[]) ∧ DskC w' dp mb (C.put (.string s) (.held f)) (D.put (.string s) (.held g)) room fuse fails (fun k => O k ∨ f.sl.ownBlock = some k) ∧ But O w w'
theorem cells2 (w : World) (u v : Value) (t : TypeId) : (w.alloc (.cells #[u, v] t)).cell? ⟨w.heap.size, 0, none⟩ = some u ∧ (w.alloc (.cells #[u, v] t)).cell? ⟨w.heap.size, 1, none⟩ = some v :=
 ⟨(cell_of_row _ _ 0 _ _ _ (heap_alloc_new w _)).trans rfl, (cell_of_row _ _ 1 _ _ _ (heap_alloc_new w _)).trans rfl⟩
theorem lay_any {w : World} {dp mb room : Nat} {C : DataW Fe} {D : FS} {fuse fails : Int} {O : Nat → Prop} (s : ByteArray) (h : DskX w dp mb C D room fuse fails O s.data.toList) (hs : s.size ≤ 281474976710656) (f : Fe) (g : Fl)
 (hl : f.l = (g.l : Int)) (ho : OwnB w 0 5 f.sl g.bs) (hap : ∀ k f' b, k ≠ .string s.data.toList → look C k = some (.held f') → f.sl.ownBlock = some b → f'.sl.ownBlock ≠ some b)
 (hb : ∀ b, f.sl.ownBlock = some b → b ≠ mb ∧ b ≠ dp) (hG : Good (D.put (.string s.data.toList) (.held g)) room) :
 Calls Tryz.prog 75 #[.pointer (some ⟨dp, 0, none⟩), .string s, .agg #[.slice f.a f.n f.c, .int .i64 f.l]] w (LaidD w dp mb room C D fuse fails O s.data.toList f g) := by
 have CL := Qh (dkclone_any s hs)
 have HH := Qh (Qa h (Qa hl (Qa ho (Qa hap (Qa hb hG)))))
 have c0 := h.cell
 have hlt := h.lt dp h.dpO
 have c1 : (w.alloc (.cells #[.slice f.a f.n f.c, .int .i64 f.l] 105)).cell? ⟨dp, 0, none⟩ = some (.map (some mb)) := (World.cell?_alloc_past _ _ _ hlt).trans c0
 obtain ⟨b0, b1⟩ := cells2 w (.slice f.a f.n f.c) (.int .i64 f.l) 105
 have HB : Below w.heap.size w (w.alloc (.cells #[.slice f.a f.n f.c, .int .i64 f.l] 105)) := Qb.alloc Qn _
 clear h hl ho hap hb hG c0
 go_enter Tryz.func75, Tryz.ntmps75
 go_wp2_with fail
 refine wp_region_held_drew (S := fun x => x.cell? ⟨dp, 0, none⟩ = some (.map (some mb)) ∧ x.cell? ⟨w.heap.size, 0, none⟩ = some (.slice f.a f.n f.c) ∧ x.cell? ⟨w.heap.size, 1, none⟩ = some (.int .i64 f.l)) (by kernel_rfl) ⟨c1, b0, b1⟩ (fun hHeld => ?_)
 refine qi 0 (by assumption) ?_
 iterate 5 (refine qk rfl (by kernel_rfl) (fun _ _ _ h => h) (by intro w hSw; (try dsimp only at hSw); go_simp; all_goals with_reducible rfl) (by (try simp only [Act.put, lz]); rfl) ?_)
 refine qo (qi 6 (by assumption) ?_)
 refine qk rfl (by kernel_rfl) (fun _ _ _ h => h) (by intro w hSw; (try dsimp only at hSw); go_simp; all_goals with_reducible rfl) (by (try simp only [Act.put, lz]); rfl) ?_
 refine qo ?_
 refine qr 5 rfl (by kernel_rfl) (fun K hK => ?_)
 rw [if_pos (by rfl)]
 go_simp
 go_at_call 128
 refine (CL.out _).mono ?_
 rintro e w2 ⟨rfl, hb2⟩
 have hB2 := HB.trans (below_drew_of hb2 |>.mono (by simp))
 have k1 := (hb2.cell (p := ⟨dp, 0, none⟩) (by simp; omega)).trans c1
 have k2 := (hb2.cell (p := ⟨w.heap.size, 0, none⟩) (by simp)).trans b0
 have k3 := (hb2.cell (p := ⟨w.heap.size, 1, none⟩) (by simp)).trans b1
 refine hK.out _ _ ?_ (fun hHeld => ?_)
 · exact ⟨k1, k2, k3⟩
 clear hK K
 try simp only [Act.put, lz]
 obtain ⟨h, hl, ho, hap, hb, hG⟩ := HH.out
 have h2 := h.below hB2
 have hsz : size C ≤ 64 := by rw [h.size_]; exact h.good.size_
 obtain ⟨w3, hrun, hown3, hg3⟩ := h2.owns.update law9 Tryz.underlying70 (by unfold maxLen; omega) (Files.key (s := s) (by unfold maxLen; omega)) (rdF_val f)
 have hrun : (Instr.mapUpdate 70 (.map (some mb)) (.string s) (.agg #[.slice f.a f.n f.c, .int .i64 f.l])).run Tryz.prog w2 = .ok () w3 := hrun
 have h3 := h2.laid hg3 hown3 hl (ho.below hB2) hap hb hG
 have hne := h.ne
 have hmb := h.lt mb h.inO
 have q1 := hg3.cell k1 (fun e => hne (by injection e))
 have q2 := hg3.cell k2 (by simp; omega)
 have q3 := hg3.cell k3 (by simp; omega)
 have H3 := Qh (Qa h3 ((But.of_below hB2 : But O w w2).trans (But.grown (O := O) hg3 (fun k e => by injection e with e; subst e; exact h.inO)) (fun i hi => .inl hi)))
 clear h hl ho hap hb hG h2 h3 hown3 hg3 hsz HH CL hb2
 refine qr 7 rfl (by kernel_rfl) (fun K hK => ?_)
 rw [if_pos (by rfl)]
 go_simp
 refine hK.out _ _ ?_ (fun hHeld => ?_)
 · exact ⟨q1, q2, q3⟩
 clear hK K
 try simp only [Act.put, lz]
 refine wpAnyH_done (by kernel_rfl) ?_ _
 go_wp2
 go_end0
 exact ⟨rfl, H3.out⟩
end
section
open Go.RowKit
open Go.Maps
attribute [local go_sem] Oper.semAt_some
theorem new_yes (room : Nat) (hr : room ≤ 1048576) (w : World) : Calls Tryz.prog 6 #[.int .i64 (room : Int)] w fun e w' => e = .returned (.pointer (some ⟨w.heap.size + 1, 0, none⟩)) ∧ Below w.heap.size w w' ∧
 Dsk w' (w.heap.size + 1) (.map []) room (-1) 0 (fun k => k = w.heap.size ∨ k = w.heap.size + 1) := by
 have HD := Qh (dsk_new w room hr)
 have hm := fun x => run_makeMap (P := Tryz.prog) 70 x
 go_enter Tryz.func6, Tryz.ntmps6
 go_wp2
 go_ret
 exact ⟨rfl, (Qb.alloc Qn _).alloc (by simp) _, HD.out⟩
theorem new_no (room : Int) (hr : ¬ (0 ≤ room ∧ room ≤ 1048576)) (w : World) : Calls Tryz.prog 6 #[.int .i64 room] w fun e w' => e = .returned (.pointer none) ∧ w = w' := by
 by_cases h0 : room < 0
 · go_enter Tryz.func6, Tryz.ntmps6
   go_wp2
   go_ret
   exact ⟨rfl, rfl⟩
 have h1 : ¬ room ≤ 1048576 := by omega
 clear hr
 go_enter Tryz.func6, Tryz.ntmps6
 go_wp2
 go_ret
 exact ⟨rfl, rfl⟩
def burn (fuse : Int) : Int := if 0 < fuse then fuse - 1 else fuse
def Tells1 (R : Int → World → Prop) (e : Ending) (w' : World) : Prop := ∃ x : Int, e = .returned (.int .i64 x) ∧ R x w'
section
variable {w : World} {dp mb room : Nat} {C : DataW Fe} {D : FS} {fuse fails : Int} {O : Nat → Prop}
theorem call_dead (h : DskC w dp mb C D room 0 fails O) (v : Value) : Calls Tryz.prog 111 #[.pointer (some ⟨dp, 0, none⟩), v] w fun e w' => e = .returned (.int .i64 42) ∧ w = w' := by
 have c2 := h.cell.2.2.1
 clear h
 go_enter Tryz.func111, Tryz.ntmps111
 go_wp2
 go_ret
 exact ⟨rfl, rfl⟩
theorem call_do (h : DskC w dp mb C D room fuse fails O) (hf : fuse ≠ 0) (k : FuncId) (caps : Array Value) (hc : ∀ x, (callFunc k caps).run Tryz.prog x = .ok (.enter k caps) x) (R : Int → World → Prop)
 (hk : ∀ w1, DskC w1 dp mb C D room (burn fuse) fails O → But O w w1 → Calls Tryz.prog k caps w1 (Tells1 R)) :
 Calls Tryz.prog 111 #[.pointer (some ⟨dp, 0, none⟩), .func (.func k) #[] caps] w (Tells1 R) := by
 have c2 := h.cell.2.2.1
 have c3 := h.cell.2.2.2.2 2
 have hfb := h.fuse_
 by_cases hp : 0 < fuse
 · have hb : burn fuse = fuse - 1 := by unfold burn; rw [if_pos hp]
   rw [hb] at hk
   have h1 := h.set_ 2 (.int .i64 (fuse - 1)) (fuse' := fuse - 1) (fails' := fails) rfl (by omega) h.fails_
   have HK := Qh (hk _ h1 ((But.refl O w).setCell (p := ⟨dp, 2, none⟩) (.inl h.dpO) _))
   have hw : IntKind.i64.wrap (fuse - 1) = fuse - 1 := by rw [IntKind.wrap_i64]; omega
   clear h hk hb h1 hfb
   go_enter Tryz.func111, Tryz.ntmps111
   go_wp2_with fail
   refine HK.out.mono ?_
   rintro e w' ⟨x, rfl, hR⟩
   have HR := Qh hR
   clear hR HK
   go_wp2
   go_ret
   exact ⟨x, rfl, HR.out⟩
 have hb : burn fuse = fuse := by unfold burn; rw [if_neg hp]
 rw [hb] at hk
 have HK := Qh (hk _ h (But.refl O w))
 clear h hk hb hfb
 go_enter Tryz.func111, Tryz.ntmps111
 go_wp2_with fail
 refine HK.out.mono ?_
 rintro e w' ⟨x, rfl, hR⟩
 have HR := Qh hR
 clear hR HK
 go_wp2
 go_ret
 exact ⟨x, rfl, HR.out⟩
end
end
section
open Go.RowKit
open Go.Maps
attribute [local go_sem] Oper.semAt_some
section
variable {w : World} {dp mb room : Nat} {C : DataW Fe} {D : FS} {fuse fails : Int} {O : Nat → Prop}
def Sees (dp mb : Nat) (C : DataW Fe) (s : ByteArray) (bd bn : Nat) (x : World) : Prop :=
 x.cell? ⟨dp, 0, none⟩ = some (.map (some mb)) ∧ x.cell? ⟨bd, 0, none⟩ = some (.pointer (some ⟨dp, 0, none⟩)) ∧ x.cell? ⟨bn, 0, none⟩ = some (.string s) ∧
  (Instr.lookup 70 (.map (some mb)) (.string s) true).run Tryz.prog x = .ok (.tuple #[.agg #[.slice (cat C (.string s.data.toList)).a (cat C (.string s.data.toList)).n (cat C (.string s.data.toList)).c, .int .i64 (cat C (.string s.data.toList)).l], .bool (has C (.string s.data.toList))]) x ∧
  (Instr.lookup 70 (.map (some mb)) (.string s) false).run Tryz.prog x = .ok (.agg #[.slice (cat C (.string s.data.toList)).a (cat C (.string s.data.toList)).n (cat C (.string s.data.toList)).c, .int .i64 (cat C (.string s.data.toList)).l]) x
theorem DskC.sees (h : DskC w dp mb C D room fuse fails O) {s : ByteArray} (hs : s.size ≤ maxLen) {bd bn : Nat} (c1 : w.cell? ⟨bd, 0, none⟩ = some (.pointer (some ⟨dp, 0, none⟩))) (c2 : w.cell? ⟨bn, 0, none⟩ = some (.string s)) {w' : World} (hb : Below w.heap.size w w') : Sees dp mb C s bd bn w' :=
 ⟨(hb.cell (p := ⟨dp, 0, none⟩) (h.lt dp h.dpO)).trans h.cell.1, (hb.cell (p := ⟨bd, 0, none⟩) (block_lt_of_cell c1)).trans c1, (hb.cell (p := ⟨bn, 0, none⟩) (block_lt_of_cell c2)).trans c2,
   (h.files.run_look hs w' (hb.block mb (h.lt mb h.files.inO))).2, (h.files.run_look hs w' (hb.block mb (h.lt mb h.files.inO))).1⟩
theorem callOn1_any (h : DskC w dp mb C D room fuse fails O) (s : ByteArray) (hs : s.size ≤ maxLen) (bd bn bf : Nat) (c1 : w.cell? ⟨bd, 0, none⟩ = some (.pointer (some ⟨dp, 0, none⟩))) (c2 : w.cell? ⟨bn, 0, none⟩ = some (.string s))
 (k : FuncId) (p q : Option Addr) (c3 : w.cell? ⟨bf, 0, none⟩ = some (.func (.func k) #[] #[.pointer p, .pointer q])) (hc : ∀ v x, (callFunc k #[v, .pointer p, .pointer q]).run Tryz.prog x = .ok (.enter k #[v, .pointer p, .pointer q]) x)
 (R : Int → World → Prop) (h0 : fat D s.data.toList = none → ∀ w', Below w.heap.size w w' → R 3 w')
 (h1 : ∀ f, fat D s.data.toList = some f → ∀ w', Below w.heap.size w w' → Calls Tryz.prog k #[(cat C (.string s.data.toList)).val, .pointer p, .pointer q] w' (Tells1 R)) :
 Calls Tryz.prog 168 #[.pointer (some ⟨bd, 0, none⟩), .pointer (some ⟨bn, 0, none⟩), .pointer (some ⟨bf, 0, none⟩)] w (Tells1 R) := by
 have SS := Qh (fun (w' : World) (hb : Below w.heap.size w w') => h.sees hs c1 c2 hb)
 have S0 := SS.out w.drew (Below.drew Qb)
 have hhas := h.files.has_ (.string s.data.toList)
 rw [h.good.has_] at hhas
 cases hf : fat D s.data.toList with
 | none =>
  rw [hf] at hhas
  have H0 := Qh (h0 hf)
  have hl3 := block_lt_of_cell c3
  unfold Sees at S0 SS
  rw [show has C (.string s.data.toList) = false from hhas] at S0 SS
  generalize cat C (.string s.data.toList) = cf at *
  clear h0 h1 hf hhas h c1 c2 hs
  have HB : Below w.heap.size w (w.alloc (.cells #[.slice cf.a cf.n cf.c, .int .i64 cf.l] 105)).drew := Below.drew (Qb.alloc Qn _)
  go_enter Tryz.func168, Tryz.ntmps168
  go_wp2_with fail
  refine wp_region_held_drew (S := fun x => x.cell? ⟨dp, 0, none⟩ = some (.map (some mb)) ∧ x.cell? ⟨bd, 0, none⟩ = some (.pointer (some ⟨dp, 0, none⟩)) ∧ x.cell? ⟨bn, 0, none⟩ = some (.string s) ∧
   (Instr.lookup 70 (.map (some mb)) (.string s) true).run Tryz.prog x = .ok (.tuple #[.agg #[.slice cf.a cf.n cf.c, .int .i64 cf.l], .bool false]) x) (by kernel_rfl) ⟨S0.1, S0.2.1, S0.2.2.1, S0.2.2.2.1⟩ (fun hHeld => ?_)
  refine qi 0 (by assumption) ?_
  iterate 9 (refine qk rfl (by kernel_rfl) (fun _ _ _ h => h) (by intro w hSw; (try dsimp only at hSw); go_simp; all_goals with_reducible rfl) (by (try simp only [Act.put, lz]); rfl) ?_)
  refine qo ?_
  refine qr 9 rfl (by kernel_rfl) (fun K hK => ?_)
  rw [if_pos (by rfl)]
  go_simp
  have S1 := SS.out _ ((Below.drew (Below.refl w.heap.size w)).alloc Qn (.cells #[.slice none 0 0, .int .i64 0] 105))
  refine hK.out _ _ ?_ (fun hHeld => ?_)
  · exact ⟨S1.1, S1.2.1, S1.2.2.1, S1.2.2.2.1⟩
  clear hK K
  try simp only [Act.put, lz]
  refine qr 10 rfl (by kernel_rfl) (fun K hK => ?_)
  rw [if_pos (by rfl)]
  go_simp
  have S2 := SS.out _ HB
  refine hK.out _ _ ?_ (fun hHeld => ?_)
  · exact ⟨S2.1, S2.2.1, S2.2.2.1, S2.2.2.2.1⟩
  clear hK K
  try simp only [Act.put, lz]
  refine qi 11 (by assumption) ?_
  refine qk rfl (by kernel_rfl) (fun _ _ _ h => h) (by intro w hSw; (try dsimp only at hSw); go_simp; all_goals with_reducible rfl) (by (try simp only [Act.put, lz]); rfl) ?_
  refine qo ?_
  refine wpAnyH_done (by kernel_rfl) ?_ _
  clear S0 S1 S2 hHeld
  go_wp2
  go_ret
  exact ⟨3, rfl, H0.out _ HB⟩
 | some f =>
  rw [hf] at hhas
  have H1 := Qh (h1 f hf)
  have hl3 := block_lt_of_cell c3
  unfold Sees at S0 SS
  rw [show has C (.string s.data.toList) = true from hhas] at S0 SS
  generalize cat C (.string s.data.toList) = cf at *
  clear h0 h1 hf hhas h c1 c2 hs
  have HB : Below w.heap.size w (w.alloc (.cells #[.slice cf.a cf.n cf.c, .int .i64 cf.l] 105)).drew := Below.drew (Qb.alloc Qn _)
  go_enter Tryz.func168, Tryz.ntmps168
  go_wp2_with fail
  refine wp_region_held_drew (S := fun x => x.cell? ⟨dp, 0, none⟩ = some (.map (some mb)) ∧ x.cell? ⟨bd, 0, none⟩ = some (.pointer (some ⟨dp, 0, none⟩)) ∧ x.cell? ⟨bn, 0, none⟩ = some (.string s) ∧
   (Instr.lookup 70 (.map (some mb)) (.string s) true).run Tryz.prog x = .ok (.tuple #[.agg #[.slice cf.a cf.n cf.c, .int .i64 cf.l], .bool true]) x) (by kernel_rfl) ⟨S0.1, S0.2.1, S0.2.2.1, S0.2.2.2.1⟩ (fun hHeld => ?_)
  refine qi 0 (by assumption) ?_
  iterate 9 (refine qk rfl (by kernel_rfl) (fun _ _ _ h => h) (by intro w hSw; (try dsimp only at hSw); go_simp; all_goals with_reducible rfl) (by (try simp only [Act.put, lz]); rfl) ?_)
  refine qo ?_
  refine qr 9 rfl (by kernel_rfl) (fun K hK => ?_)
  rw [if_pos (by rfl)]
  go_simp
  have S1 := SS.out _ ((Below.drew (Below.refl w.heap.size w)).alloc Qn (.cells #[.slice none 0 0, .int .i64 0] 105))
  refine hK.out _ _ ?_ (fun hHeld => ?_)
  · exact ⟨S1.1, S1.2.1, S1.2.2.1, S1.2.2.2.1⟩
  clear hK K
  try simp only [Act.put, lz]
  refine qr 10 rfl (by kernel_rfl) (fun K hK => ?_)
  rw [if_pos (by rfl)]
  go_simp
  have S2 := SS.out _ HB
  refine hK.out _ _ ?_ (fun hHeld => ?_)
  · exact ⟨S2.1, S2.2.1, S2.2.2.1, S2.2.2.2.1⟩
  clear hK K
  try simp only [Act.put, lz]
  refine qi 11 (by assumption) ?_
  refine qk rfl (by kernel_rfl) (fun _ _ _ h => h) (by intro w hSw; (try dsimp only at hSw); go_simp; all_goals with_reducible rfl) (by (try simp only [Act.put, lz]); rfl) ?_
  refine qo ?_
  refine wpAnyH_done (by kernel_rfl) ?_ _
  clear S0 S1 S2 hHeld
  have d3 : (w.alloc (.cells #[.slice cf.a cf.n cf.c, .int .i64 cf.l] 105)).drew.cell? ⟨bf, 0, none⟩ = some (.func (.func k) #[] #[.pointer p, .pointer q]) := (World.cell?_alloc_past _ _ _ hl3).trans c3
  have K1 := Qh (H1.out _ HB)
  clear H1 c3
  go_wp2_with fail
  refine K1.out.mono ?_
  rintro e w' ⟨x, rfl, hR⟩
  have HR := Qh hR
  clear hR K1 d3
  go_wp2
  go_ret
  exact ⟨x, rfl, HR.out⟩
theorem callOn_dead (h : DskC w dp mb C D room 0 fails O) (s : ByteArray) (k : FuncId) (p q : Option Addr) : Calls Tryz.prog 109 #[.pointer (some ⟨dp, 0, none⟩), .string s, .func (.func k) #[] #[.pointer p, .pointer q]] w fun e w' => e = .returned (.int .i64 42) ∧ Below w.heap.size w w' := by
 have hb1 : Below w.heap.size w (w.alloc (.cells #[.pointer (some ⟨dp, 0, none⟩)] 24)) := Qb.alloc Qn _
 have hb3 : Below w.heap.size w (((w.alloc (.cells #[.pointer (some ⟨dp, 0, none⟩)] 24)).alloc (.cells #[.string s] 9)).alloc (.cells #[.func (.func k) #[] #[.pointer p, .pointer q]] 138)) := (hb1.alloc (by simp) _).alloc (by simp; omega) _
 have CD := Qh (fun v => call_dead (h.below hb3) v)
 clear h
 go_enter Tryz.func109, Tryz.ntmps109
 go_wp2_with fail
 refine (CD.out _).mono ?_
 rintro e w' ⟨rfl, rfl⟩
 go_wp2
 go_ret
 exact ⟨rfl, hb3⟩
theorem callOn_any (h : DskC w dp mb C D room fuse fails O) (hf : fuse ≠ 0) (s : ByteArray) (hs : s.size ≤ maxLen)
 (k : FuncId) (p q : Option Addr) (hc : ∀ v x, (callFunc k #[v, .pointer p, .pointer q]).run Tryz.prog x = .ok (.enter k #[v, .pointer p, .pointer q]) x)
 (R : Int → World → Prop) (h0 : fat D s.data.toList = none → ∀ w', DskC w' dp mb C D room (burn fuse) fails O → But O w w' → R 3 w')
 (h1 : ∀ f, fat D s.data.toList = some f → ∀ w', DskC w' dp mb C D room (burn fuse) fails O → But O w w' → Calls Tryz.prog k #[(cat C (.string s.data.toList)).val, .pointer p, .pointer q] w' (Tells1 R)) :
 Calls Tryz.prog 109 #[.pointer (some ⟨dp, 0, none⟩), .string s, .func (.func k) #[] #[.pointer p, .pointer q]] w (Tells1 R) := by
 have hb1 : Below w.heap.size w (w.alloc (.cells #[.pointer (some ⟨dp, 0, none⟩)] 24)) := Qb.alloc Qn _
 have hb3 : Below w.heap.size w (((w.alloc (.cells #[.pointer (some ⟨dp, 0, none⟩)] 24)).alloc (.cells #[.string s] 9)).alloc (.cells #[.func (.func k) #[] #[.pointer p, .pointer q]] 138)) := (hb1.alloc (by simp) _).alloc (by simp; omega) _
 have CD : Calls Tryz.prog 111 #[.pointer (some ⟨dp, 0, none⟩), .func (.func 168) #[] #[.pointer (some ⟨w.heap.size, 0, none⟩), .pointer (some ⟨w.heap.size + 1, 0, none⟩), .pointer (some ⟨w.heap.size + 1 + 1, 0, none⟩)]]
  (((w.alloc (.cells #[.pointer (some ⟨dp, 0, none⟩)] 24)).alloc (.cells #[.string s] 9)).alloc (.cells #[.func (.func k) #[] #[.pointer p, .pointer q]] 138)) (Tells1 R) := by
  refine call_do (h.below hb3) hf _ _ (fun x => by kernel_rfl) R (fun w1 d1 bt => ?_)
  have hB : But O w w1 := (But.of_below (O := O) hb3).trans bt (fun i hi => .inl hi)
  have hO := h.lt
  refine callOn1_any d1 s hs _ _ _ ?_ ?_ k p q ?_ hc R (fun e w' hb => h0 e w' (d1.below hb) (hB.trans (But.of_below (O := O) hb) (fun i hi => .inl hi)))
   (fun f e w' hb => h1 f e w' (d1.below hb) (hB.trans (But.of_below (O := O) hb) (fun i hi => .inl hi)))
  · exact (bt.cell (by simp <;> omega) (fun ho => by have := hO _ ho; omega)).trans ((World.cell?_alloc_past _ _ _ (by simp <;> omega)).trans ((World.cell?_alloc_past _ _ _ (by simp)).trans (cell_of_row _ _ 0 _ _ _ (heap_alloc_new w _))))
  · have := cell_of_row _ _ 0 _ _ _ (heap_alloc_new (w.alloc (.cells #[.pointer (some ⟨dp, 0, none⟩)] 24)) (.cells #[.string s] 9))
    simp only [World.size_alloc] at this
    exact (bt.cell (by simp <;> omega) (fun ho => by have := hO _ ho; omega)).trans ((World.cell?_alloc_past _ _ _ (by simp)).trans this)
  have := cell_of_row _ _ 0 _ _ _ (heap_alloc_new ((w.alloc (.cells #[.pointer (some ⟨dp, 0, none⟩)] 24)).alloc (.cells #[.string s] 9)) (.cells #[.func (.func k) #[] #[.pointer p, .pointer q]] 138))
  simp only [World.size_alloc] at this
  exact (bt.cell (by simp) (fun ho => by have := hO _ ho; omega)).trans this
 have HC := Qh CD
 clear CD h hf h0 h1 hb1 hb3
 go_enter Tryz.func109, Tryz.ntmps109
 go_wp2_with fail
 refine HC.out.mono ?_
 rintro e w' ⟨x, rfl, hR⟩
 have HR := Qh hR
 clear hR HC
 go_wp2
 go_ret
 exact ⟨x, rfl, HR.out⟩
end
end
section
open Go.RowKit
open Go.Maps
attribute [local go_sem] Oper.semAt_some
structure St where
 D : FS
 room : Nat
 fuse : Int
 fails : Int
def IsD (w : World) (dp : Nat) (t : St) (O : Nat → Prop) : Prop := Dsk w dp t.D t.room t.fuse t.fails O
def St.burnt (t : St) : St := { t with fuse := burn t.fuse }
def St.sync (t : St) (s : List UInt8) : Int × St :=
 if t.fuse = 0 then (42, t) else
 match fat t.D s with
 | none => (3, t.burnt)
 | some f => if 0 < t.fails then (41, { t.burnt with fails := t.fails - 1 }) else (0, { t.burnt with D := t.D.put (.string s) (.held ⟨f.bs, f.bs.length⟩) })
def St.delete (t : St) (s : List UInt8) : Int × St :=
 if t.fuse = 0 then (42, t) else
 match fat t.D s with
 | none => (3, t.burnt)
 | some _ => (0, { t.burnt with D := t.D.del (.string s) })
def Left (w : World) (dp : Nat) (O : Nat → Prop) (r : Int × St) (x : Int) (w' : World) : Prop :=
 x = r.1 ∧ ∃ O', IsD w' dp r.2 O' ∧ But O w w' ∧ ∀ k, O' k → O k ∨ w.heap.size ≤ k
theorem Left.of {w w1 w' : World} {dp : Nat} {O : Nat → Prop} {r : Int × St} {x : Int} (h : Left w1 dp O r x w') (hb : But O w w1) : Left w dp O r x w' := by
 obtain ⟨e, O', h1, h2, h3⟩ := h
 exact ⟨e, O', h1, hb.trans h2 (fun _ hi => .inl hi), fun k hk => (h3 k hk).imp id (Nat.le_trans hb.size)⟩
theorem Left.same {w w' : World} {dp mb : Nat} {C : DataW Fe} {O : Nat → Prop} {x : Int} {t : St} (h : DskC w' dp mb C t.D t.room t.fuse t.fails O) (hb : But O w w') : Left w dp O (x, t) x w' :=
 ⟨rfl, O, ⟨mb, C, h⟩, hb, fun _ hk => .inl hk⟩
theorem Left.laid {w w1 w' : World} {dp mb room : Nat} {C : DataW Fe} {D : FS} {fuse fails : Int} {O : Nat → Prop} {s : List UInt8} {f : Fe} {g : Fl} {e : Ending} (h : LaidD w1 dp mb room C D fuse fails O s f g e w') (hb : But O w w1)
 (hO : ∀ k, f.sl.ownBlock = some k → O k ∨ w.heap.size ≤ k) : Left w dp O (0, ⟨D.put (.string s) (.held g), room, fuse, fails⟩) 0 w' :=
 ⟨rfl, _, ⟨mb, _, h.2.1⟩, hb.trans h.2.2 (fun _ hi => .inl hi), fun k hk => hk.elim .inl (hO k)⟩
theorem own_len {w : World} {base : Nat} {e : TypeId} {a : Option Addr} {n c : Nat} {bs : List Nat} (h : OwnB w base e (.slice a n c) bs) : n = bs.length := by
 rcases h.2 with ⟨h', h0⟩ | ⟨g', cap', cur, h', _⟩
 · injection h' with _ h2 _
   omega
 injection h'
section
variable {w : World} {dp mb room : Nat} {C : DataW Fe} {D : FS} {fuse fails : Int} {O : Nat → Prop}
theorem DskC.len_ (h : DskC w dp mb C D room fuse fails O) {s : List UInt8} {g : Fl} (hg : fat D s = some g) : (cat C (.string s)).n = g.bs.length := own_len (h.files.cat_ s g hg).2.2
theorem DskC.room_ (h : DskC w dp mb C D room fuse fails O) {s : List UInt8} {g : Fl} (hg : fat D s = some g) : g.bs.length ≤ 1048576 := by
 have h1 := (h.good.at_ hg).2.2.2
 have h2 := h.good.tot_
 have h3 := h.good.room_
 omega
theorem DskC.good_put (h : DskC w dp mb C D room fuse fails O) {s : List UInt8} {g : Fl} (hg : fat D s = some g) (l : Nat) (hl : l ≤ g.bs.length) : Good (D.put (.string s) (.held ⟨g.bs, l⟩)) room :=
 h.good.put (h.good.at_ hg).1 hl (h.good.at_ hg).2.2.1 (.inl (by rw [hg]; rfl)) (by rw [hg]; have := h.good.tot_; simp; omega)
theorem sync1_any (h : DskC w dp mb C D room fuse fails O) (s : ByteArray) (hs : s.size ≤ 281474976710656) (g : Fl) (hg : fat D s.data.toList = some g) (bd bn : Nat) (c1 : w.cell? ⟨bd, 0, none⟩ = some (.pointer (some ⟨dp, 0, none⟩))) (c2 : w.cell? ⟨bn, 0, none⟩ = some (.string s)) :
 Calls Tryz.prog 110 #[(cat C (.string s.data.toList)).val, .pointer (some ⟨bd, 0, none⟩), .pointer (some ⟨bn, 0, none⟩)] w
  (Tells1 (Left w dp O (if 0 < fails then (41, ⟨D, room, fuse, fails - 1⟩) else (0, ⟨D.put (.string s.data.toList) (.held ⟨g.bs, g.bs.length⟩), room, fuse, fails⟩)))) := by
 have hC := h.files.cat_ s.data.toList g hg
 have hn := h.len_ hg
 have hgp := h.good_put hg g.bs.length Qn
 have hr := h.room_ hg
 have hap : ∀ k f' b, k ≠ .string s.data.toList → look C k = some (.held f') → (cat C (.string s.data.toList)).sl.ownBlock = some b → f'.sl.ownBlock ≠ some b :=
  fun k f' b hk hl hb he => hk (h.files.apart k _ f' _ b hl hC.1 he hb)
 have hbk : ∀ b, (cat C (.string s.data.toList)).sl.ownBlock = some b → O b ∧ b ≠ mb ∧ b ≠ dp := fun b hb => h.files.fileO _ _ b hC.1 hb
 have HH := Qh (Qa h (Qa hC (Qa hgp (Qa hap (Qa hbk hn)))))
 have c3 := h.cell.2.2.2.1
 have z3 := h.cell.2.2.2.2 3
 have hfl := h.fails_
 have hld := h.lt dp h.dpO
 have hl1 := block_lt_of_cell c1
 have hl2 := block_lt_of_cell c2
 show Calls Tryz.prog 110 #[.agg #[.slice (cat C (.string s.data.toList)).a (cat C (.string s.data.toList)).n (cat C (.string s.data.toList)).c, .int .i64 (cat C (.string s.data.toList)).l], .pointer (some ⟨bd, 0, none⟩), .pointer (some ⟨bn, 0, none⟩)] w _
 generalize cat C (.string s.data.toList) = f at *
 have k3 : (w.alloc (.cells #[.slice f.a f.n f.c, .int .i64 f.l] 105)).cell? ⟨dp, 3, none⟩ = some (.int .i64 fails) := (World.cell?_alloc_past _ _ _ hld).trans c3
 have y3 : (w.alloc (.cells #[.slice f.a f.n f.c, .int .i64 f.l] 105)).frozen? ⟨dp, 3, none⟩ = false := (World.frozen?_of_block (w := w) (a := ⟨dp, 3, none⟩) (heap_alloc_old _ _ hld)).trans z3
 have k1 : (w.alloc (.cells #[.slice f.a f.n f.c, .int .i64 f.l] 105)).cell? ⟨bd, 0, none⟩ = some (.pointer (some ⟨dp, 0, none⟩)) := (World.cell?_alloc_past _ _ _ hl1).trans c1
 have k2 : (w.alloc (.cells #[.slice f.a f.n f.c, .int .i64 f.l] 105)).cell? ⟨bn, 0, none⟩ = some (.string s) := (World.cell?_alloc_past _ _ _ hl2).trans c2
 have hB : Below w.heap.size w (w.alloc (.cells #[.slice f.a f.n f.c, .int .i64 f.l] 105)) := Qb.alloc Qn _
 by_cases hp : 0 < fails
 · rw [if_pos hp]
   have hw : IntKind.i64.wrap (fails - 1) = fails - 1 := by rw [IntKind.wrap_i64]; omega
   have h2 := Qh ((h.set_ 3 (.int .i64 (fails - 1)) (fuse' := fuse) (fails' := fails - 1) rfl h.fuse_ (by omega)).below (Qb.alloc Qn (.cells #[.slice f.a f.n f.c, .int .i64 f.l] 105)))
   clear h hC hn hgp hap hbk hfl c1 c2 c3 z3
   go_enter Tryz.func110, Tryz.ntmps110
   go_wp2
   go_ret
   exact ⟨41, rfl, Left.same h2.out (((But.refl O w).setCell (p := ⟨dp, 3, none⟩) (.inl HH.out.1.dpO) _).alloc _)⟩
 rw [if_neg hp]
 have hC2 : OwnB w 0 5 f.sl g.bs := hC.2.2
 have hB2 : Below w.heap.size w (w.alloc (.cells #[.slice f.a f.n f.c, .int .i64 (f.n : Int)] 105)) := Qb.alloc Qn _
 have LY := Qh (lay_any s ((h.below hB2).x s.data.toList) hs ⟨f.a, f.n, f.c, (f.n : Int)⟩ ⟨g.bs, g.bs.length⟩ (by show (f.n : Int) = _; rw [hn]) (hC2.below hB2) (fun k f' b hk hl hb => hap k f' b hk hl hb) (fun b hb => (hbk b hb).2) hgp)
 have k1 : (w.alloc (.cells #[.slice f.a f.n f.c, .int .i64 (f.n : Int)] 105)).cell? ⟨bd, 0, none⟩ = some (.pointer (some ⟨dp, 0, none⟩)) := (World.cell?_alloc_past _ _ _ hl1).trans c1
 have k2 : (w.alloc (.cells #[.slice f.a f.n f.c, .int .i64 (f.n : Int)] 105)).cell? ⟨bn, 0, none⟩ = some (.string s) := (World.cell?_alloc_past _ _ _ hl2).trans c2
 clear h hC hn hgp hap hbk hfl c1 c2 c3 z3 hC2
 go_enter Tryz.func110, Tryz.ntmps110
 go_wp2_with fail
 refine LY.out.mono ?_
 rintro e w' hL
 have he := hL.1
 subst he
 have HL := Qh hL
 clear hL LY
 go_wp2
 go_ret
 exact ⟨0, rfl, Left.laid HL.out (But.of_below hB2) (fun k hk => .inl (HH.out.2.2.2.2.1 k hk).1)⟩
theorem delete1_any (h : DskC w dp mb C D room fuse fails O) (s : ByteArray) (hs : s.size ≤ 281474976710656) (bd bn : Nat) (c1 : w.cell? ⟨bd, 0, none⟩ = some (.pointer (some ⟨dp, 0, none⟩))) (c2 : w.cell? ⟨bn, 0, none⟩ = some (.string s)) :
 Calls Tryz.prog 114 #[(cat C (.string s.data.toList)).val, .pointer (some ⟨bd, 0, none⟩), .pointer (some ⟨bn, 0, none⟩)] w
  (Tells1 (Left w dp O (0, ⟨D.del (.string s.data.toList), room, fuse, fails⟩))) := by
 show Calls Tryz.prog 114 #[.agg #[.slice (cat C (.string s.data.toList)).a (cat C (.string s.data.toList)).n (cat C (.string s.data.toList)).c, .int .i64 (cat C (.string s.data.toList)).l], .pointer (some ⟨bd, 0, none⟩), .pointer (some ⟨bn, 0, none⟩)] w _
 generalize cat C (.string s.data.toList) = f at *
 have hB : Below w.heap.size w (w.alloc (.cells #[.slice f.a f.n f.c, .int .i64 f.l] 105)).drew := Below.drew (Qb.alloc Qn _)
 have h2 := h.below hB
 have k1 := (hB.cell (p := ⟨bd, 0, none⟩) (block_lt_of_cell c1)).trans c1
 have k2 := (hB.cell (p := ⟨bn, 0, none⟩) (block_lt_of_cell c2)).trans c2
 have k0 := h2.cell.1
 have hne := h.ne
 have hmO := h.files.inO
 obtain ⟨w3, hrun, hown3, ht3⟩ := h2.files.owns.drop law9 Tryz.underlying70 (Files.key (s := s) (by unfold maxLen; omega)) 0
 have hg3 := ht3.grown
 have h3 := h2.gone s.data.toList hg3 hown3
 have q1 := hg3.cell k1 (fun e => by
  injection e with e
  subst e
  obtain ⟨es, clock, hb, _⟩ := h2.files.owns
  simp [World.cell?, hb] at k1)
 have q2 := hg3.cell k2 (fun e => by
  injection e with e
  subst e
  obtain ⟨es, clock, hb, _⟩ := h2.files.owns
  simp [World.cell?, hb] at k2)
 have q0 := hg3.cell k0 (fun e => hne (by injection e))
 have H3 := Qh (Qa h3 ((But.of_below (O := O) hB).trans (But.grown (O := O) hg3 (fun k e => by injection e with e; subst e; exact hmO)) (fun _ hi => .inl hi)))
 clear h h2 h3 hown3 ht3 hg3 hne hmO c1 c2 hB
 go_enter Tryz.func114, Tryz.ntmps114
 go_wp2_with fail
 refine wp_region_held_drew (S := fun x => x.cell? ⟨dp, 0, none⟩ = some (.map (some mb)) ∧ x.cell? ⟨bd, 0, none⟩ = some (.pointer (some ⟨dp, 0, none⟩)) ∧ x.cell? ⟨bn, 0, none⟩ = some (.string s)) (by kernel_rfl) ⟨k0, k1, k2⟩ (fun hHeld => ?_)
 refine qi 0 (by assumption) ?_
 iterate 5 (refine qk rfl (by kernel_rfl) (fun _ _ _ h => h) (by intro w hSw; (try dsimp only at hSw); go_simp; all_goals with_reducible rfl) (by (try simp only [Act.put, lz]); rfl) ?_)
 refine qo ?_
 refine qr 5 rfl (by kernel_rfl) (fun K hK => ?_)
 rw [if_pos (by rfl)]
 go_simp
 refine hK.out _ _ ?_ (fun hHeld => ?_)
 · exact ⟨q0, q1, q2⟩
 clear hK K
 try simp only [Act.put, lz]
 refine wpAnyH_done (by kernel_rfl) ?_ _
 go_wp2
 go_ret
 exact ⟨0, rfl, Left.same H3.out.1 H3.out.2⟩
end
theorem sync_any {w : World} {dp : Nat} {t : St} {O : Nat → Prop} (h : IsD w dp t O) (s : ByteArray) (hs : s.size ≤ 281474976710656) :
 Calls Tryz.prog 59 #[.pointer (some ⟨dp, 0, none⟩), .string s] w (Tells1 (Left w dp O (t.sync s.data.toList))) := by
 obtain ⟨mb, C, h⟩ := h
 have hb2 : Below w.heap.size w ((w.alloc (.cells #[.pointer (some ⟨dp, 0, none⟩)] 24)).alloc (.cells #[.string s] 9)) := (Qb.alloc Qn _).alloc (by simp) _
 have hO := h.lt
 have CC : Calls Tryz.prog 109 #[.pointer (some ⟨dp, 0, none⟩), .string s, .func (.func 110) #[] #[.pointer (some ⟨w.heap.size, 0, none⟩), .pointer (some ⟨w.heap.size + 1, 0, none⟩)]]
  ((w.alloc (.cells #[.pointer (some ⟨dp, 0, none⟩)] 24)).alloc (.cells #[.string s] 9)) (Tells1 (Left w dp O (t.sync s.data.toList))) := by
  have h2 := h.below hb2
  by_cases hf : t.fuse = 0
  · have e : t.sync s.data.toList = (42, t) := by unfold St.sync; rw [if_pos hf]
    rw [e]
    refine (callOn_dead (hf ▸ h2) s _ _ _).mono ?_
    rintro _ w' ⟨rfl, hb⟩
    exact ⟨42, rfl, Left.same (h2.below hb) ((But.of_below (O := O) hb2).trans (But.of_below (O := O) hb) (fun _ hi => .inl hi))⟩
  refine callOn_any h2 hf s (by unfold maxLen; omega) _ _ _ (fun v x => by kernel_rfl) _ (fun hn w' h3 hb => ?_) (fun f hn w' h3 hb => ?_)
  · have e : t.sync s.data.toList = (3, t.burnt) := by unfold St.sync; rw [if_neg hf, hn]
    rw [e]
    exact Left.same (t := t.burnt) h3 ((But.of_below (O := O) hb2).trans hb (fun _ hi => .inl hi))
  have e : t.sync s.data.toList = (if 0 < t.fails then (41, ⟨t.D, t.room, burn t.fuse, t.fails - 1⟩) else (0, ⟨t.D.put (.string s.data.toList) (.held ⟨f.bs, f.bs.length⟩), t.room, burn t.fuse, t.fails⟩)) := by
   unfold St.sync; rw [if_neg hf, hn]; rfl
  rw [e]
  refine (sync1_any h3 s hs f hn _ _ ?_ ?_).mono ?_
  · exact (hb.cell (by simp; omega) (fun ho => by have := hO _ ho; omega)).trans ((World.cell?_alloc_past _ _ _ (by simp)).trans (cell_of_row _ _ 0 _ _ _ (heap_alloc_new w _)))
  · have := cell_of_row _ _ 0 _ _ _ (heap_alloc_new (w.alloc (.cells #[.pointer (some ⟨dp, 0, none⟩)] 24)) (.cells #[.string s] 9))
    simp only [World.size_alloc] at this
    exact (hb.cell (by simp) (fun ho => by have := hO _ ho; omega)).trans this
  rintro _ w'' ⟨x, rfl, hL⟩
  exact ⟨x, rfl, hL.of ((But.of_below (O := O) hb2).trans hb (fun _ hi => .inl hi))⟩
 have HC := Qh CC
 clear CC h hb2 hO
 go_enter Tryz.func59, Tryz.ntmps59
 go_wp2_with fail
 refine HC.out.mono ?_
 rintro e w' ⟨x, rfl, hR⟩
 have HR := Qh hR
 clear hR HC
 go_wp2
 go_ret
 exact ⟨x, rfl, HR.out⟩
theorem delete_any {w : World} {dp : Nat} {t : St} {O : Nat → Prop} (h : IsD w dp t O) (s : ByteArray) (hs : s.size ≤ 281474976710656) :
 Calls Tryz.prog 61 #[.pointer (some ⟨dp, 0, none⟩), .string s] w (Tells1 (Left w dp O (t.delete s.data.toList))) := by
 obtain ⟨mb, C, h⟩ := h
 have hb2 : Below w.heap.size w ((w.alloc (.cells #[.pointer (some ⟨dp, 0, none⟩)] 24)).alloc (.cells #[.string s] 9)) := (Qb.alloc Qn _).alloc (by simp) _
 have hO := h.lt
 have CC : Calls Tryz.prog 109 #[.pointer (some ⟨dp, 0, none⟩), .string s, .func (.func 114) #[] #[.pointer (some ⟨w.heap.size, 0, none⟩), .pointer (some ⟨w.heap.size + 1, 0, none⟩)]]
  ((w.alloc (.cells #[.pointer (some ⟨dp, 0, none⟩)] 24)).alloc (.cells #[.string s] 9)) (Tells1 (Left w dp O (t.delete s.data.toList))) := by
  have h2 := h.below hb2
  by_cases hf : t.fuse = 0
  · have e : t.delete s.data.toList = (42, t) := by unfold St.delete; rw [if_pos hf]
    rw [e]
    refine (callOn_dead (hf ▸ h2) s _ _ _).mono ?_
    rintro _ w' ⟨rfl, hb⟩
    exact ⟨42, rfl, Left.same (h2.below hb) ((But.of_below (O := O) hb2).trans (But.of_below (O := O) hb) (fun _ hi => .inl hi))⟩
  refine callOn_any h2 hf s (by unfold maxLen; omega) _ _ _ (fun v x => by kernel_rfl) _ (fun hn w' h3 hb => ?_) (fun f hn w' h3 hb => ?_)
  · have e : t.delete s.data.toList = (3, t.burnt) := by unfold St.delete; rw [if_neg hf, hn]
    rw [e]
    exact Left.same (t := t.burnt) h3 ((But.of_below (O := O) hb2).trans hb (fun _ hi => .inl hi))
  have e : t.delete s.data.toList = (0, ⟨t.D.del (.string s.data.toList), t.room, burn t.fuse, t.fails⟩) := by
   unfold St.delete; rw [if_neg hf, hn]; rfl
  rw [e]
  refine (delete1_any h3 s hs _ _ ?_ ?_).mono ?_
  · exact (hb.cell (by simp; omega) (fun ho => by have := hO _ ho; omega)).trans ((World.cell?_alloc_past _ _ _ (by simp)).trans (cell_of_row _ _ 0 _ _ _ (heap_alloc_new w _)))
  · have := cell_of_row _ _ 0 _ _ _ (heap_alloc_new (w.alloc (.cells #[.pointer (some ⟨dp, 0, none⟩)] 24)) (.cells #[.string s] 9))
    simp only [World.size_alloc] at this
    exact (hb.cell (by simp) (fun ho => by have := hO _ ho; omega)).trans this
  rintro _ w'' ⟨x, rfl, hL⟩
  exact ⟨x, rfl, hL.of ((But.of_below (O := O) hb2).trans hb (fun _ hi => .inl hi))⟩
 have HC := Qh CC
 clear CC h hb2 hO
 go_enter Tryz.func61, Tryz.ntmps61
 go_wp2_with fail
 refine HC.out.mono ?_
 rintro e w' ⟨x, rfl, hR⟩
 have HR := Qh hR
 clear hR HC
 go_wp2
 go_ret
 exact ⟨x, rfl, HR.out⟩
end
end
end Go.Proofs.YtamblmoedommfaaGreatDoor
