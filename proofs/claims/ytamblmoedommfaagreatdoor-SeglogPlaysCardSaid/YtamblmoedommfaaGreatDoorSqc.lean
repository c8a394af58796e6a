/- The reference's disk: one file turned in its place; Sync. A region that draws its order and ends in one operation that. The reference's disk: put. 'append(v, x. The reference's disk: Write. The reference's disk: Rename. -/
import Derived.Test.YtamblmoedommfaaGreatDoorSqa
import Derived.Test.YtamblmoedommfaaGreatDoorSqb
import Derived.StillTail
import Derived.Laws.OwnMore
namespace Go.Proofs.YtamblmoedommfaaGreatDoor
set_option maxRecDepth 100000
set_option maxHeartbeats 40000000
set_option linter.unusedVariables false
set_option linter.unusedSimpArgs false
set_option linter.unusedSectionVars false
section
open Go.RowKit
open Go.Maps
attribute [local go_sem] Oper.semAt_some
theorem rcells_set2 : ∀ (es : List REnt) (i : Nat) (e : REnt) (n : Nat), es[i]? = some e → rcells (es.set i { e with l := n }) = (rcells es).set (i * 3 + 2) (.int .i64 (n : Int))
 | [], i, _, _, h => by simp at h
 | x :: es, 0, e, n, h => by
  have : x = e := by simpa using h
  subst this
  rfl
 | x :: es, i + 1, e, n, h => by
  have ih := rcells_set2 es i e n (by simpa using h)
  show x.cells ++ rcells (es.set i { e with l := n }) = (x.cells ++ rcells es).set ((i + 1) * 3 + 2) _
  rw [ih, List.set_append_right _ _ (by simp; omega)]
  congr 2
  simp
  omega
theorem rcells_set1 : ∀ (es : List REnt) (i : Nat) (e : REnt) (a : Option Addr) (c : Nat) (bs : List Nat), es[i]? = some e → rcells (es.set i { e with a := a, c := c, bs := bs }) = (rcells es).set (i * 3 + 1) (.slice a bs.length c)
 | [], i, _, _, _, _, h => by simp at h
 | x :: es, 0, e, a, c, bs, h => by
  have : x = e := by simpa using h
  subst this
  rfl
 | x :: es, i + 1, e, a, c, bs, h => by
  have ih := rcells_set1 es i e a c bs (by simpa using h)
  show x.cells ++ rcells (es.set i { e with a := a, c := c, bs := bs }) = (x.cells ++ rcells es).set ((i + 1) * 3 + 1) _
  rw [ih, List.set_append_right _ _ (by simp; omega)]
  congr 2
  simp
  omega
section
variable {w : World} {rp : Nat} {t : St} {O : Nat → Prop} {a : Option Addr} {c : Nat} {es : List REnt}
theorem RdC.edit {g : Nat} (h : RdC w rp t O (some ⟨g, 0, none⟩) c es) {w1 : World} (hb : Below w.heap.size w w1) {i : Nat} {e : REnt} (he : es[i]? = some e) (j : Nat) (u : Value) (f : REnt) (hj : i * 3 + j < es.length * 3) (hc : rcells (es.set i f) = (rcells es).set (i * 3 + j) u)
 {D' : FS} (hD : D' = rD (es.set i f)) (hG : Good D' t.room)
 (hby : (f.a = e.a ∧ f.bs = e.bs ∧ f.c = e.c) ∨ (Sl w1 w1.heap.size f.a f.bs.length f.c f.bs ∧ (0 < f.bs.length → ∀ b o, f.a = some ⟨b, o, none⟩ → w.heap.size ≤ b))) :
 RMv w rp O ⟨D', t.room, t.fuse, t.fails⟩ (w1.setCell ⟨g, i * 3 + j, none⟩ u) := by
 have h1 := h.below hb
 have hgO := h.ownO g rfl
 have hgl := h.lt g hgO.1
 have hoth : ∀ k, k ≠ g → (w1.setCell ⟨g, i * 3 + j, none⟩ u).heap[k]? = w1.heap[k]? := fun k hk => Below.heap_setCell w1 ⟨g, i * 3 + j, none⟩ _ k hk
 have hz : (w1.setCell ⟨g, i * 3 + j, none⟩ u).heap.size = w1.heap.size := by simp [World.setCell]
 have hl : (es.set i f).length = es.length := List.length_set
 have hst := (World.ownsRow.stored h1.own (i * 3 + j) u).1
 refine ⟨fun k => O k ∨ (w.heap.size ≤ k ∧ k < w1.heap.size), ⟨some ⟨g, 0, none⟩, c, es.set i f, ?_, ?_, hD, hG, fun e' he' => ?_, .inl h.rpO, fun b hb' => ?_, fun k hk => ?_, h.fuse_, h.fails_⟩, ?_, fun k hk => ?_⟩
 · rw [hl]
   exact (hoth rp (fun e => hgO.2 e.symm)).trans h1.cells
 · rw [hl, hc]
   exact hst
 · rw [hl]
   have hold : ∀ x ∈ es, Sl (w1.setCell ⟨g, i * 3 + j, none⟩ u) (w1.setCell ⟨g, i * 3 + j, none⟩ u).heap.size x.a x.bs.length x.c x.bs ∧ (0 < x.bs.length → ∀ b o, x.a = some ⟨b, o, none⟩ → (O b ∨ (w.heap.size ≤ b ∧ b < w1.heap.size)) ∧ b ≠ rp ∧ (Value.slice (some ⟨g, 0, none⟩) es.length c).ownBlock ≠ some b) := fun x hx => by
    have h2 := h.bytes x hx
    have hne : 0 < x.bs.length → ∀ b o, x.a = some ⟨b, o, none⟩ → b ≠ g := fun hp b o e' hbg => (h2.2 hp b o e').2.2 (by rw [hbg]; rfl)
    exact ⟨(h1.bytes x hx).1.same_ (by omega) (fun hp b o e' => hoth b (hne hp b o e')), fun hp b o e' => ⟨.inl (h2.2 hp b o e').1, (h2.2 hp b o e').2.1, (h2.2 hp b o e').2.2⟩⟩
   rcases List.mem_or_eq_of_mem_set he' with he' | he'
   · exact hold e' he'
   subst he'
   rcases hby with ⟨q1, q2, q3⟩ | ⟨hsl, hn⟩
   · rw [q1, q2, q3]
     exact hold e (List.mem_of_getElem? he)
   refine ⟨hsl.same_ (by omega) (fun hp b o e' => hoth b (by have := hn hp b o e'; omega)), fun hp b o e' => ⟨.inr ⟨hn hp b o e', ?_⟩, by have := hn hp b o e'; have := h.lt rp h.rpO; omega, fun hv => ?_⟩⟩
   · obtain ⟨b', o', e2, hlt, _⟩ := hsl.at_ hp
     rw [e'] at e2
     injection e2 with e2
     injection e2 with e2
     omega
   have hv' : some g = some b := hv
   injection hv' with hv'
   have := hn hp b o e'
   omega
 · injection hb' with hb'
   subst hb'
   exact ⟨.inl hgO.1, hgO.2⟩
 · rcases hk with hk | hk
   · have := h1.lt k hk; omega
   omega
 · exact (But.of_below (O := O) hb).setCell (p := ⟨g, i * 3 + j, none⟩) (.inl hgO.1) _
 rcases hk with hk | hk
 · exact .inl hk
 exact .inr hk.1
def S9 (x : World) (rp g i n c : Nat) (ea : Option Addr) (m ec : Nat) : Prop := x.cell? ⟨rp, 1, none⟩ = some (.slice (some ⟨g, 0, none⟩) n c) ∧ x.cell? ⟨g, i * 3 + 1, none⟩ = some (.slice ea m ec)
theorem ridx_name : ∀ (es : List REnt) (s : List UInt8) (e : REnt), es[ridx es s]? = some e → e.s = s
 | [], s, e, h => by simp at h
 | x :: es, s, e, h => by
  by_cases hx : x.s = s
  · have e1 : ridx (x :: es) s = 0 := by rw [ridx, if_pos hx]
    rw [e1] at h
    have : x = e := by simpa using h
    rw [← this]; exact hx
  have e1 : ridx (x :: es) s = ridx es s + 1 := by rw [ridx, if_neg hx]
  rw [e1] at h
  exact ridx_name es s e (by simpa using h)
theorem rsync_any (h : RdC w rp t O a c es) (s : ByteArray) : Calls Tryz.prog 63 #[.pointer (some ⟨rp, 0, none⟩), .string s] w fun e w' => e = .returned (.int .i64 (t.sync s.data.toList).1) ∧ RMv w rp O (t.sync s.data.toList).2 w' := by
 by_cases hf : t.fuse = 0
 · have e : t.sync s.data.toList = (42, t) := by unfold St.sync; rw [if_pos hf]
   rw [e]
   have CD := Qh (rcall_dead h hf)
   have HR := Qh (rowner ⟨a, c, es, h⟩)
   clear h
   go_enter Tryz.func63, Tryz.ntmps63
   go_wp2_with fail
   refine CD.out.mono ?_
   rintro e1 w1 ⟨rfl, rfl⟩
   go_wp2
   go_ret
   exact ⟨rfl, HR.out⟩
 have CD := Qh (rcall_do h hf)
 have hcap := h.len_
 by_cases hi : ridx es s.data.toList < es.length
 · obtain ⟨e0, he0, hfat⟩ : ∃ e0, es[ridx es s.data.toList]? = some e0 ∧ fat t.D s.data.toList = some e0.fl := by
    obtain ⟨e0, g, h0, hf0, _⟩ := h.here hi
    exact ⟨e0, h0, hf0⟩
   have hnm := ridx_name es _ e0 he0
   by_cases hbad : 0 < t.fails
   · have e : t.sync s.data.toList = (41, { t.burnt with fails := t.fails - 1 }) := by unfold St.sync; rw [if_neg hf, hfat]; simp only []; rw [if_pos hbad]
     rw [e]
     have hfl := h.fails_
     have hw : IntKind.i64.wrap (t.fails - 1) = t.fails - 1 := by rw [IntKind.wrap_i64]; omega
     clear h e he0 hnm hfat
     go_enter Tryz.func63, Tryz.ntmps63
     go_wp2_with fail
     refine CD.out.mono ?_
     rintro e1 w1 ⟨rfl, h1, b1⟩
     have AT := rat_any h1 s
     unfold ratI at AT
     rw [if_pos hi] at AT
     have AT := Qh AT
     have c3 : w1.cell? ⟨rp, 3, none⟩ = some (.int .i64 t.fails) := h1.cell.2.2.2.1
     have z3 := h1.cell.2.2.2.2 3
     have h2 := h1.set_ 3 (.int .i64 (t.fails - 1)) (fuse' := t.burnt.fuse) (fails' := t.fails - 1) rfl h1.fuse_ (by omega)
     have HF := Qh (show RMv w rp O { t.burnt with fails := t.fails - 1 } (w1.setCell ⟨rp, 3, none⟩ (.int .i64 (t.fails - 1))) from ⟨O, ⟨a, c, es, h2⟩, b1.setCell (p := ⟨rp, 3, none⟩) (.inl h1.rpO) _, fun _ hk => .inl hk⟩)
     generalize ridx es s.data.toList = i at *
     clear h1 b1 CD h2
     go_wp2_with fail
     refine AT.out.mono ?_
     rintro e1 w2 ⟨rfl, rfl⟩
     go_wp2
     go_ret
     exact ⟨rfl, HF.out⟩
   have e : t.sync s.data.toList = (0, { t.burnt with D := t.D.put (.string s.data.toList) (.held ⟨e0.bs, e0.bs.length⟩) }) := by unfold St.sync; rw [if_neg hf, hfat]; simp only []; rw [if_neg hbad]
   rw [e]
   have hD : t.D.put (.string s.data.toList) (.held ⟨e0.bs, e0.bs.length⟩) = rD (es.set (ridx es s.data.toList) { e0 with l := e0.bs.length }) := by rw [rD_set s.data.toList h.once hi { e0 with l := e0.bs.length } hnm, h.D_]
   have hG : Good (t.D.put (.string s.data.toList) (.held ⟨e0.bs, e0.bs.length⟩)) t.room :=
    h.good.put (h.good.at_ hfat).1 Qn (h.good.at_ hfat).2.2.1 (.inl (by rw [hfat]; rfl)) (by rw [hfat]; have := h.good.tot_; simp; omega)
   obtain ⟨g, hg⟩ : ∃ g, a = some ⟨g, 0, none⟩ := by obtain ⟨g, hg, _⟩ := h.at_ (by omega); exact ⟨g, hg⟩
   subst hg
   clear h e
   go_enter Tryz.func63, Tryz.ntmps63
   go_wp2_with fail
   refine CD.out.mono ?_
   rintro e1 w1 ⟨rfl, h1, b1⟩
   have AT := rat_any h1 s
   unfold ratI at AT
   rw [if_pos hi] at AT
   have AT := Qh AT
   have c1 := h1.cell.2.1
   have c3 : w1.cell? ⟨rp, 3, none⟩ = some (.int .i64 t.fails) := h1.cell.2.2.2.1
   obtain ⟨g', hg', _, _, hgl, _, _, hcs⟩ := h1.at_ (by omega)
   have hgg : g' = g := by injection hg' with hg'; injection hg' with hg'; exact hg'.symm
   subst hgg
   have q1 := (hcs _ e0 he0).2.1
   have q2 := (hcs _ e0 he0).2.2
   have zq : w1.frozen? ⟨g', ridx es s.data.toList * 3 + 2, none⟩ = false := by
    rcases h1.own.2 with ⟨h2, _⟩ | ⟨g2, cap, cur, e, _, h3, _⟩
    · cases h2
    injection e with e; injection e with e; injection e with e; subst e; exact frozen_of_row _ _ _ _ _ h3
   have HF := Qh (RMv.then b1 (h1.edit (Below.drew Qb) he0 2 (.int .i64 (e0.bs.length : Int)) { e0 with l := e0.bs.length } (by omega) (rcells_set2 es _ e0 _ he0) hD hG (.inl ⟨rfl, rfl, rfl⟩)))
   generalize ridx es s.data.toList = i at *
   obtain ⟨n, hn⟩ : ∃ n, n = es.length := ⟨_, rfl⟩
   rw [← hn] at c1 hi hcap
   clear hg' hcs h1 b1 CD hn hD hG hnm he0 hfat
   go_wp2_with fail
   refine AT.out.mono ?_
   rintro e1 w2 ⟨rfl, rfl⟩
   go_upto_region 9 with fail
   have hk : S9 w1.drew rp g' i n c e0.a e0.bs.length e0.c := ⟨c1, q1⟩
   refine wp_region_held_drew (S := fun x => S9 x rp g' i n c e0.a e0.bs.length e0.c) (by kernel_rfl) hk (fun hHeld => ?_)
   unfold S9 at hHeld ⊢
   refine qi 0 (by assumption) ?_
   iterate 16 (refine qk rfl (by kernel_rfl) (fun _ _ _ h => h) (by intro w hSw; (try dsimp only at hSw); go_simp; all_goals with_reducible rfl) (by (try simp only [Act.put, lz]); rfl) ?_)
   refine qo ?_
   refine qr 16 rfl (by kernel_rfl) (fun K hK => ?_)
   go_simp
   have hne : (⟨rp, 1, none⟩ : Addr) ≠ ⟨g', i * 3 + 2, none⟩ := fun e => by injection e; omega
   have hne2 : (⟨g', i * 3 + 1, none⟩ : Addr) ≠ ⟨g', i * 3 + 2, none⟩ := fun e => by injection e; omega
   refine hK.out _ _ ?_ (fun hHeld => ?_)
   · exact ⟨(World.cell?_setCell_other _ _ _ _ hne.symm).trans c1, (World.cell?_setCell_other _ _ _ _ hne2.symm).trans q1⟩
   clear hK K
   try simp only [Act.put, lz]
   refine wpAnyH_done (by kernel_rfl) ?_ _
   clear hHeld
   go_wp2
   go_ret
   exact ⟨rfl, HF.out⟩
 have e : t.sync s.data.toList = (3, t.burnt) := by unfold St.sync; rw [if_neg hf, h.gone_ hi]
 rw [e]
 clear h e
 go_enter Tryz.func63, Tryz.ntmps63
 go_wp2_with fail
 refine CD.out.mono ?_
 rintro e1 w1 ⟨rfl, h1, b1⟩
 have AT := rat_any h1 s
 unfold ratI at AT
 rw [if_neg hi] at AT
 have AT := Qh AT
 have HR := Qh (RMv.then b1 (rowner ⟨a, c, es, h1⟩))
 clear h1 b1 CD
 go_wp2_with fail
 refine AT.out.mono ?_
 rintro e1 w2 ⟨rfl, rfl⟩
 go_wp2
 go_ret
 exact ⟨rfl, HR.out⟩
end
end
section
section
variable {P : Program} {ops : Array Oper} {Q : Exit → Act → World → Prop} {md : Region.Mode} {S : World → Prop} {τ : Nat}
def heldT (P : Program) (md : Region.Mode) (ops : Array Oper) (Q : Exit → Act → World → Prop) (S : World → Prop) (τ : Nat) : Nat → Array Bool → Act → World → Prop
 | 0, L, a, w => Region.ready md ops L = [] ∧ Q .normal a w
 | fuel + 1, L, a, w => (Region.ready md ops L = [] → Q .normal a w) ∧ ∀ i ∈ Region.ready md ops L, wpOp P ops Q i (fun b u => (S u ∨ i = τ) ∧ heldT P md ops Q S τ fuel (L.setIfInBounds i true) b u) a w
theorem heldT.any : ∀ (fuel : Nat) (L : Array Bool) (a : Act) (w : World), heldT P md ops Q S τ fuel L a w → wpAny P md ops Q fuel L a w
 | 0, _, _, _, h => h
 | fuel + 1, _, _, _, h => ⟨h.1, fun i hi => wpOp_mono (fun a' w' h' => heldT.any fuel _ a' w' h'.2) (h.2 i hi)⟩
theorem region_tail (S : World → Prop) (τ : Nat) {id : Nat} {a : Act} {w : World} (hm : P.follows .mixedOrders = true) (hS : S w.drew)
 (h : S w.drew → heldT P .any ops Q S τ ops.size (Array.replicate ops.size false) a w.drew) : (Code.region id ops true).wp P Q a w :=
 wp_region_any hm (heldT.any _ _ _ _ (h hS))
theorem heldT.done {L : Array Bool} {a : Act} {w : World} (hr : Region.ready md ops L = []) (h : Q .normal a w) : ∀ fuel, heldT P md ops Q S τ fuel L a w
 | 0 => ⟨hr, h⟩
 | _ + 1 => ⟨fun _ => h, by rw [hr]; simp⟩
def ReadyT (P : Program) (md : Region.Mode) (ops : Array Oper) (Q : Exit → Act → World → Prop) (S : World → Prop) (τ fuel : Nat) (L : Array Bool) (a : Act) (w : World) (rs : List Nat) : Prop :=
 ∀ i ∈ rs, wpOp P ops Q i (fun b u => (S u ∨ i = τ) ∧ heldT P md ops Q S τ fuel (L.setIfInBounds i true) b u) a w
theorem ReadyT.nil {fuel : Nat} {L : Array Bool} {a : Act} {w : World} : ReadyT P md ops Q S τ fuel L a w [] := fun _ h => by cases h
theorem ReadyT.cons {fuel : Nat} {L : Array Bool} {a : Act} {w : World} {i : Nat} {o : Oper} {rs : List Nat} (ho : ops[i]? = some o)
 (h : ∀ K' : Act → World → Prop, Shut (∀ a w, (S w ∨ i = τ) → heldT P md ops Q S τ fuel (L.setIfInBounds i true) a w → K' a w) → if Region.wanted o (yielded ops a.tmps) = true then Oper.wp P o a w K' Q else K' (a.put o.dst undef) w)
 (hs : ReadyT P md ops Q S τ fuel L a w rs) : ReadyT P md ops Q S τ fuel L a w (i :: rs) := fun j hj => by
 rcases List.mem_cons.1 hj with rfl | hj
 · exact wpOp_step ho (fun K' hK => h K' (fun a w hS hW => hK a w ⟨hS, hW⟩))
 exact hs j hj
theorem heldT.ready {rs : List Nat} {fuel : Nat} {L : Array Bool} {a : Act} {w : World} (hr : Region.ready md ops L = rs) (hne : rs ≠ [])
 (h : ReadyT P md ops Q S τ fuel L a w rs) : heldT P md ops Q S τ (fuel + 1) L a w := ⟨fun h0 => absurd (hr ▸ h0) hne, hr ▸ h⟩
theorem takeT_go {i : Nat} {x : Oper} {v : Value} (hi : ops[i]? = some x) (hsel : ∀ (j : Nat) (o : Oper) cs b, ops[j]? = some o → o.op ≠ .select cs b) (hQ : ∀ c a w, Q (.panic c) (a.put x.dst v) w → Q (.panic c) a w) (hτ : Region.waitsFor md ops τ i = true) (hne9 : i ≠ τ) :
 ∀ (fuel : Nat) (L : Array Bool) (a : Act) (w : World), (∀ j y, ops[j]? = some y → j ≠ i → L.getD j true = false → (∀ e ∈ y.after, Region.binds md e = true → e.on ≠ i) → x.apart ops y = true) →
  i ∈ Region.ready md ops L → GivesIf P ops S x v a → S w → heldT P md ops Q S τ fuel (L.setIfInBounds i true) (a.put x.dst v) w → heldT P md ops Q S τ (fuel + 1) L a w := by
 intro fuel
 induction fuel with
 | zero =>
  intro L a w _ hr hx hS H
  refine ⟨fun h0 => absurd hr (by rw [h0]; simp), fun j hj => ?_⟩
  rcases Nat.decEq j i with hne | heq
  · exact absurd (ready_mono hj hne) (by rw [H.1]; simp)
  subst heq; exact hx.op hi hS ⟨.inl hS, H⟩
 | succ fuel ih =>
  intro L a w hfree hr hx hS H
  refine ⟨fun h0 => absurd hr (by rw [h0]; simp), fun j hj => ?_⟩
  rcases Nat.decEq j i with hne | heq
  · obtain ⟨hLj, y, hy, hall⟩ := mem_ready.1 hj
    have hLi := (mem_ready.1 hr).1
    have hno : ∀ e ∈ y.after, Region.binds md e = true → e.on ≠ i := fun e he hb heq => by
     have h1 := hall e he hb
     rw [heq] at h1
     by_cases hlt : i < L.size
     · simp [hlt] at hLi h1; rw [hLi] at h1; cases h1
     simp [Array.getElem?_eq_none (Nat.le_of_not_lt hlt)] at h1
    have hjτ : j ≠ τ := fun hjt => by
     obtain ⟨oj, ho, e, he, hb, hon⟩ := Region.waitsFor_spec hτ
     rw [← hjt, hy] at ho
     injection ho with ho
     subst ho
     exact hno e he hb hon
    have h2 := GivesIf.pass hy (hfree j y hy hne hLj hno) (fun cs b => hsel i x cs b hi) (fun cs b => hsel j y cs b hy) hQ hx (H.2 j (ready_mono hj hne))
    refine wpOp_mono (fun b u hb => ⟨hb.2.1, ih _ b u ?_ (ready_mono hr (Ne.symm hne)) hb.1 (hb.2.1.resolve_right hjτ) ?_⟩) h2
    · intro k z hz hki hun hnz
      refine hfree k z hz hki ?_ hnz
      rcases Nat.decEq j k with hjk | hjk
      · rw [getD_set_ne true hjk] at hun; exact hun
      subst hjk; exact hLj
    rw [Array.setIfInBounds_comm _ _ hne]; exact hb.2.2
  subst heq; exact hx.op hi hS ⟨.inl hS, H⟩
theorem takeT2_go {i m : Nat} {x : Oper} {v : Value} (hi : ops[i]? = some x) (hsel : ∀ (j : Nat) (o : Oper) cs b, ops[j]? = some o → o.op ≠ .select cs b) (hQ : ∀ c a w, Q (.panic c) (a.put x.dst v) w → Q (.panic c) a w) (hτ : Region.waitsFor md ops τ m = true) (hmi : Region.waitsFor md ops m i = true) (hne9 : i ≠ τ) :
 ∀ (fuel : Nat) (L : Array Bool) (a : Act) (w : World), (∀ j y, ops[j]? = some y → j ≠ i → L.getD j true = false → (∀ e ∈ y.after, Region.binds md e = true → e.on ≠ i) → x.apart ops y = true) →
  L.getD m true = false → i ∈ Region.ready md ops L → GivesIf P ops S x v a → S w → heldT P md ops Q S τ fuel (L.setIfInBounds i true) (a.put x.dst v) w → heldT P md ops Q S τ (fuel + 1) L a w := by
 intro fuel
 induction fuel with
 | zero =>
  intro L a w _ hm hr hx hS H
  refine ⟨fun h0 => absurd hr (by rw [h0]; simp), fun j hj => ?_⟩
  rcases Nat.decEq j i with hne | heq
  · exact absurd (ready_mono hj hne) (by rw [H.1]; simp)
  subst heq; exact hx.op hi hS ⟨.inl hS, H⟩
 | succ fuel ih =>
  intro L a w hfree hm hr hx hS H
  refine ⟨fun h0 => absurd hr (by rw [h0]; simp), fun j hj => ?_⟩
  rcases Nat.decEq j i with hne | heq
  · obtain ⟨hLj, y, hy, hall⟩ := mem_ready.1 hj
    have hLi := (mem_ready.1 hr).1
    have hno : ∀ e ∈ y.after, Region.binds md e = true → e.on ≠ i := fun e he hb heq => by
     have h1 := hall e he hb
     rw [heq] at h1
     by_cases hlt : i < L.size
     · simp [hlt] at hLi h1; rw [hLi] at h1; cases h1
     simp [Array.getElem?_eq_none (Nat.le_of_not_lt hlt)] at h1
    have hjm : j ≠ m := fun hjt => by
     obtain ⟨oj, ho, e, he, hb, hon⟩ := Region.waitsFor_spec hmi
     rw [← hjt, hy] at ho
     injection ho with ho
     subst ho
     exact hno e he hb hon
    have hjτ : j ≠ τ := fun hjt => by
     obtain ⟨oj, ho, e, he, hb, hon⟩ := Region.waitsFor_spec hτ
     rw [← hjt, hy] at ho
     injection ho with ho
     subst ho
     have h1 := hall e he hb
     rw [hon] at h1
     by_cases hlt : m < L.size
     · simp [hlt] at hm h1; rw [hm] at h1; cases h1
     simp [Array.getElem?_eq_none (Nat.le_of_not_lt hlt)] at h1
    have h2 := GivesIf.pass hy (hfree j y hy hne hLj hno) (fun cs b => hsel i x cs b hi) (fun cs b => hsel j y cs b hy) hQ hx (H.2 j (ready_mono hj hne))
    refine wpOp_mono (fun b u hb => ⟨hb.2.1, ih _ b u ?_ (by rw [getD_set_ne true hjm]; exact hm) (ready_mono hr (Ne.symm hne)) hb.1 (hb.2.1.resolve_right hjτ) ?_⟩) h2
    · intro k z hz hki hun hnz
      refine hfree k z hz hki ?_ hnz
      rcases Nat.decEq j k with hjk | hjk
      · rw [getD_set_ne true hjk] at hun; exact hun
      subst hjk; exact hLj
    rw [Array.setIfInBounds_comm _ _ hne]; exact hb.2.2
  subst heq; exact hx.op hi hS ⟨.inl hS, H⟩
theorem GivesIf.yields {x : Oper} {v : Value} {a : Act} (h : YieldsIf P ops S x v a) : GivesIf P ops S x v a := by
 rcases h with ⟨h1, h2⟩ | h
 · exact .inl ⟨h1, fun w hS => by rw [h2 w hS]; exact ⟨rfl, rfl⟩⟩
 exact .inr h
theorem takeT {i : Nat} {x : Oper} {v : Value} {fuel : Nat} {L : Array Bool} {a : Act} {w : World} (hi : ops[i]? = some x) (hs : Region.noSelect ops = true) (hf : Region.free md ops L i = true) (hr : (Region.ready md ops L).contains i = true) (hτ : (Region.waitsFor md ops τ i && decide (i ≠ τ)) = true)
 (hQ : ∀ c a w, Q (.panic c) (a.put x.dst v) w → Q (.panic c) a w) (hx : YieldsIf P ops S x v a) (hS : S w) (h : heldT P md ops Q S τ fuel (L.setIfInBounds i true) (a.put x.dst v) w) : heldT P md ops Q S τ (fuel + 1) L a w := by
 simp only [Bool.and_eq_true, decide_eq_true_eq] at hτ
 exact takeT_go hi (Region.noSelect_spec hs) hQ hτ.1 hτ.2 fuel L a w (Region.free_spec hi hf) (by simpa using hr) (GivesIf.yields hx) hS h
theorem takeT2 (m : Nat) {i : Nat} {x : Oper} {v : Value} {fuel : Nat} {L : Array Bool} {a : Act} {w : World} (hi : ops[i]? = some x) (hs : Region.noSelect ops = true) (hf : Region.free md ops L i = true) (hr : (Region.ready md ops L).contains i = true) (hτ : (Region.waitsFor md ops τ m && Region.waitsFor md ops m i && decide (i ≠ τ)) = true) (hm : L.getD m true = false)
 (hQ : ∀ c a w, Q (.panic c) (a.put x.dst v) w → Q (.panic c) a w) (hx : YieldsIf P ops S x v a) (hS : S w) (h : heldT P md ops Q S τ fuel (L.setIfInBounds i true) (a.put x.dst v) w) : heldT P md ops Q S τ (fuel + 1) L a w := by
 simp only [Bool.and_eq_true, decide_eq_true_eq] at hτ
 exact takeT2_go hi (Region.noSelect_spec hs) hQ hτ.1.1 hτ.1.2 hτ.2 fuel L a w (Region.free_spec hi hf) hm (by simpa using hr) (GivesIf.yields hx) hS h
end
end
section
open Go.RowKit
open Go.Maps
attribute [local go_sem] Oper.semAt_some
theorem OwnFl.alloc {w : World} {base : Nat} {v : Value} {es : List REnt} (h : OwnFl w base v es) (o : Obj) : OwnFl (w.alloc o) base v es := World.ownsRow.alloc h o
theorem OwnFl.mono {w : World} {base base' : Nat} {v : Value} {es : List REnt} (h : OwnFl w base v es) (hb : base' ≤ base) : OwnFl w base' v es := by
 refine ⟨h.1, ?_⟩
 rcases h.2 with h1 | ⟨g, cap, cur, e, h1, h2⟩
 · exact .inl h1
 exact .inr ⟨g, cap, cur, e, Nat.le_trans hb h1, h2⟩
theorem RFs.one (x : World) (f : REnt) : RFs (x.alloc (.cells #[.string ⟨f.s.toArray⟩, .slice f.a f.bs.length f.c, .int .i64 (f.l : Int)] 124)) (some ⟨x.heap.size, 0, none⟩) 1 1 [f] :=
 ⟨rfl, Nat.le_refl _, by simp [maxLen], fun e => (by cases e), fun _ => ⟨x.heap.size, 0, rfl, by simp, fun j u hj => by
  rw [Nat.zero_add]
  refine (cell_of_row _ _ j _ _ _ (heap_alloc_new x _)).trans ?_
  have : rcells [f] = f.cells := by simp [rcells]
  rw [this, ← List.getElem?_toArray] at hj
  exact hj⟩⟩
theorem RFs.grown {w w' : World} {a : Option Addr} {n c : Nat} {es : List REnt} {r : Option Nat} (h : RFs w a n c es) (hg : w.grownBy w' r) (hr : ∀ g o, a = some ⟨g, o, none⟩ → r ≠ some g) : RFs w' a n c es :=
 ⟨h.len, h.le, h.max, h.none_, fun hne => by
  obtain ⟨g, o, e, hlt, hc⟩ := h.at_ hne
  refine ⟨g, o, e, Nat.lt_of_lt_of_le hlt hg.size, fun j u hj => ?_⟩
  exact (World.cell?_of_block (w := w) (a := ⟨g, o + j, none⟩) (hg.block g hlt (fun e' => hr g o e e'.symm))).trans (hc j u hj)⟩
section
variable {w : World} {rp : Nat} {t : St} {O : Nat → Prop} {a : Option Addr} {c : Nat} {es : List REnt}
theorem far_cellR {w : World} {p : Addr} {v : Value} (h : w.cell? p = some v) (w' : World) (hb : Below w.heap.size w w') : w'.cell? p = some v := (hb.cell (block_lt_of_cell h)).trans h
theorem rdput_any (h : RdC w rp t O a c es) (f : REnt) (hn63 : es.length ≤ 63) (hne : ∀ e ∈ es, e.s ≠ f.s) (hG : Good (t.D.put (.string f.s) (.held f.fl)) t.room)
 (hf : Sl w w.heap.size f.a f.bs.length f.c f.bs ∧ (0 < f.bs.length → ∀ b o, f.a = some ⟨b, o, none⟩ → O b ∧ b ≠ rp)) :
 Calls Tryz.prog 120 #[.pointer (some ⟨rp, 0, none⟩), .agg #[.string ⟨f.s.toArray⟩, .slice f.a f.bs.length f.c, .int .i64 (f.l : Int)]] w fun e w' => e = .returned (.tuple #[]) ∧ RMv w rp O ⟨t.D.put (.string f.s) (.held f.fl), t.room, t.fuse, t.fails⟩ w' := by
 have hB1 : Below w.heap.size w (w.alloc (.cells #[.string ⟨f.s.toArray⟩, .slice f.a f.bs.length f.c, .int .i64 (f.l : Int)] 124)) := Qb.alloc Qn _
 obtain ⟨w1, hw1⟩ : ∃ w1, w1 = w.alloc (.cells #[.string ⟨f.s.toArray⟩, .slice f.a f.bs.length f.c, .int .i64 (f.l : Int)] 124) := ⟨_, rfl⟩
 have b0 : (w.alloc (.cells #[.string ⟨f.s.toArray⟩, .slice f.a f.bs.length f.c, .int .i64 (f.l : Int)] 124)).cell? ⟨w.heap.size, 0, none⟩ = some (.string ⟨f.s.toArray⟩) := (cell_of_row _ _ 0 _ _ _ (heap_alloc_new w (.cells #[.string ⟨f.s.toArray⟩, .slice f.a f.bs.length f.c, .int .i64 (f.l : Int)] 124))).trans rfl
 have b1 : (w.alloc (.cells #[.string ⟨f.s.toArray⟩, .slice f.a f.bs.length f.c, .int .i64 (f.l : Int)] 124)).cell? ⟨w.heap.size, 1, none⟩ = some (.slice f.a f.bs.length f.c) := (cell_of_row _ _ 1 _ _ _ (heap_alloc_new w (.cells #[.string ⟨f.s.toArray⟩, .slice f.a f.bs.length f.c, .int .i64 (f.l : Int)] 124))).trans rfl
 have b2 : (w.alloc (.cells #[.string ⟨f.s.toArray⟩, .slice f.a f.bs.length f.c, .int .i64 (f.l : Int)] 124)).cell? ⟨w.heap.size, 2, none⟩ = some (.int .i64 (f.l : Int)) := (cell_of_row _ _ 2 _ _ _ (heap_alloc_new w (.cells #[.string ⟨f.s.toArray⟩, .slice f.a f.bs.length f.c, .int .i64 (f.l : Int)] 124))).trans rfl
 rw [← hw1] at hB1 b0 b1 b2
 have h1 := h.below hB1
 have c1 := far_cellR h1.cell.2.1
 have hcap := h1.rfs.le
 have q0 := far_cellR b0
 have q1 := far_cellR b1
 have q2 := far_cellR b2
 have hrl := h1.lt rp h1.rpO
 have z1 := h1.cell.2.2.2.2 1
 have PE := Qh (fun (w4 : World) (v4 : Value) (k : Nat) (hk : rput es f.s = k) (hE : Below w1.heap.size w1 w4) (ho : OwnFl w4 w1.heap.size v4 (es.take k ++ [f] ++ es.drop k)) =>
  h.relay (D' := t.D.put (.string f.s) (.held f.fl)) (hB1.trans (hE.mono hB1.size)) (ho.mono hB1.size) (by rw [h.D_, ← rD_put es f hne, hk]; simp) hG (fun e he => by
   rcases List.mem_append.1 he with he | he
   · rcases List.mem_append.1 he with he | he
     · exact .inl (List.mem_of_mem_take he)
     have : e = f := by simpa using he
     subst this
     exact .inr hf
   exact .inl (List.mem_of_mem_drop he)))
 have HK := Qh (Qa h (Qa h1 (Qa hB1 (Qa hne (Qa hG hf)))))
 obtain ⟨n, hn⟩ : ∃ n, n = es.length := ⟨_, rfl⟩
 rw [← hn] at c1 hn63 hcap
 have HN := Qh hn
 obtain ⟨gF, hgF⟩ : ∃ gF, gF = w.heap.size := ⟨_, rfl⟩
 have Hw1 := Qh hw1
 have HgF := Qh hgF
 clear h h1 hB1 b0 b1 b2 hne hG hf hn
 go_enter Tryz.func120, Tryz.ntmps120
 go_wp2_with fail
 rw [← hw1, ← hgF]
 rw [← hgF] at q0 q1 q2
 clear hw1 hgF
 go_loopw [4] (fun i wr => ∃ k : Nat, k ≤ n ∧ i = .int .i64 (k : Int) ∧ (∀ j e, j < k → es[j]? = some e → bytesBefore e.s f.s = true) ∧ Below w1.heap.size w1 wr) (fun i _ => n - (intOf i).toNat)
 case atStart => exact ⟨0, Nat.zero_le _, rfl, fun j e hj => by omega, Below.refl _ _⟩
 case round =>
  obtain ⟨k, hk, rfl, hno, hnx⟩ := hrel
  have HX := Qh hnx
  by_cases hlt : k < n
  · obtain ⟨g, hg, _, _, hgl, _, _, hc⟩ := HK.out.2.1.at_ (by have := HN.out; omega)
    have hke : k < es.length := by have := HN.out; omega
    have p0 := far_cellR (hc k es[k] (List.getElem?_eq_getElem hke)).1
    obtain ⟨e0, he0⟩ : ∃ e0, e0 = es[k] := ⟨_, rfl⟩
    rw [← he0] at p0
    have HE := Qh (show es[k]? = some e0 by rw [he0]; exact List.getElem?_eq_getElem hke)
    have HNo := Qh hno
    subst hg
    have hkn : (k : Int) < (n : Int) := by omega
    clear hc he0 hke hno hgl
    cases hb : bytesBefore e0.s f.s with
    | true =>
     have hb1 : Op.bytesLess (⟨e0.s.toArray⟩ : ByteArray).toList (⟨f.s.toArray⟩ : ByteArray).toList = true := by rw [toList_mk, toList_mk, bytesLess_before, hb]
     have hb2 : Op.bytesLess e0.s f.s = true := by rw [bytesLess_before, hb]
     go_upto_region 2 with fail
     refine wp_region_held_drew (S := fun x => Below w1.heap.size w1 x) (by kernel_rfl) (Below.drew HX.out) (fun hHeld => ?_)
     refine qi 0 (by assumption) ?_
     iterate 20 (refine qk rfl (by kernel_rfl) (fun _ _ _ h => h) (by intro w hSw; (try dsimp only at hSw); go_simp; all_goals with_reducible rfl) (by (try simp only [Act.put, lz]); rfl) ?_)
     refine qo ?_
     refine wpAnyH_done (by kernel_rfl) ?_ _
     clear hHeld
     have Hb := Qh hb
     go_wp2
     go_roundw
     case measure => simp [intOf]; omega
     case rel =>
     refine ⟨k + 1, by omega, by go_num, fun j e hj he => ?_, Below.drew HX.out⟩
     by_cases hjk : j = k
     · subst hjk
       have := he.symm.trans HE.out
       injection this with this
       rw [this]
       exact Hb.out
     exact HNo.out j e (by omega) he
    | false =>
     have hb1 : Op.bytesLess (⟨e0.s.toArray⟩ : ByteArray).toList (⟨f.s.toArray⟩ : ByteArray).toList = false := by rw [toList_mk, toList_mk, bytesLess_before, hb]
     have hb2 : Op.bytesLess e0.s f.s = false := by rw [bytesLess_before, hb]
     have Hk := Qh (rput_hit es f.s k e0 HNo.out HE.out hb)
     go_upto_region 2 with fail
     refine wp_region_held_drew (S := fun x => Below w1.heap.size w1 x) (by kernel_rfl) (Below.drew HX.out) (fun hHeld => ?_)
     refine qi 0 (by assumption) ?_
     iterate 20 (refine qk rfl (by kernel_rfl) (fun _ _ _ h => h) (by intro w hSw; (try dsimp only at hSw); go_simp; all_goals with_reducible rfl) (by (try simp only [Act.put, lz]); rfl) ?_)
     refine qo ?_
     refine wpAnyH_done (by kernel_rfl) ?_ _
     clear hHeld hb1 hb2 hb p0
     have HX := Qh (Below.drew HX.out)
     go_upto_region 4 with fail
     have kc1 : ∀ x, (Instr.slice 73 (.slice (some ⟨g, 0, none⟩) n c) none (some (.int .i64 (k : Int))) none).run Tryz.prog x = .ok (.slice (some ⟨g, 0, none⟩) k c) x := run_cut3_to (P := Tryz.prog) 73 124 Tryz.underlying73 info_file _ n c k (by omega)
     obtain ⟨a2, ha2⟩ : ∃ a2, a2 = fromA3 (some ⟨g, 0, none⟩) c k := ⟨_, rfl⟩
     obtain ⟨n2, hn2⟩ : ∃ n2, n2 = n - k := ⟨_, rfl⟩
     obtain ⟨c2, hc2⟩ : ∃ c2, c2 = c - k := ⟨_, rfl⟩
     have kc2 : ∀ x, (Instr.slice 73 (.slice (some ⟨g, 0, none⟩) n c) (some (.int .i64 (k : Int))) none none).run Tryz.prog x = .ok (.slice a2 n2 c2) x := fun x => by
      have := run_cut3_from (P := Tryz.prog) 73 124 Tryz.underlying73 info_file (some ⟨g, 0, none⟩) n c k (by omega) x
      rw [this, ha2, hn2, hc2]
     have RS := HK.out.2.1.rfs
     rw [← HN.out] at RS
     have RT := Qh (RS.take (k := k) hk)
     have RD0 := RS.from_ (k := k) hk
     rw [← ha2, ← hn2, ← hc2] at RD0
     have RD := Qh RD0
     have hl1 : (es.take k).length = k := by rw [List.length_take, ← HN.out]; omega
     have hn3 : k + n2 ≤ 63 := by omega
     have HP := Qh (Qa hl1 hn3)
     have zf := fun (x : World) (hx : Below w1.heap.size w1 x) => (World.frozen?_of_block (w := w1) (a := ⟨rp, 1, none⟩) (hx.block rp hrl)).trans z1
     clear RS RD0 ha2 hn2 hc2 hl1
     refine region_tail (fun x => Below w1.heap.size w1 x) 21 (by kernel_rfl) (Below.drew HX.out) (fun hHeld => ?_)
     refine takeT (i := 0) (v := ?_) rfl (by kernel_rfl) (by kernel_rfl) (by kernel_rfl) (by kernel_rfl) (fun _ _ _ h => h) (Or.inl ⟨by rfl, ?_⟩) (by assumption) ?_
     rotate_left
     · intro w hSw
       (try dsimp only at hSw)
       go_simp
       all_goals with_reducible rfl
     try simp only [Act.put, lz]
     refine takeT (i := 2) (v := ?_) rfl (by kernel_rfl) (by kernel_rfl) (by kernel_rfl) (by kernel_rfl) (fun _ _ _ h => h) (Or.inl ⟨by rfl, ?_⟩) (by assumption) ?_
     rotate_left
     · intro w hSw
       (try dsimp only at hSw)
       go_simp
       all_goals with_reducible rfl
     try simp only [Act.put, lz]
     refine takeT (i := 3) (v := ?_) rfl (by kernel_rfl) (by kernel_rfl) (by kernel_rfl) (by kernel_rfl) (fun _ _ _ h => h) (Or.inl ⟨by rfl, ?_⟩) (by assumption) ?_
     rotate_left
     · intro w hSw
       (try dsimp only at hSw)
       go_simp
       all_goals with_reducible rfl
     try simp only [Act.put, lz]
     refine takeT (i := 4) (v := ?_) rfl (by kernel_rfl) (by kernel_rfl) (by kernel_rfl) (by kernel_rfl) (fun _ _ _ h => h) (Or.inl ⟨by rfl, ?_⟩) (by assumption) ?_
     rotate_left
     · intro w hSw
       (try dsimp only at hSw)
       go_simp
       all_goals with_reducible rfl
     try simp only [Act.put, lz]
     refine takeT (i := 5) (v := ?_) rfl (by kernel_rfl) (by kernel_rfl) (by kernel_rfl) (by kernel_rfl) (fun _ _ _ h => h) (Or.inl ⟨by rfl, ?_⟩) (by assumption) ?_
     rotate_left
     · intro w hSw
       (try dsimp only at hSw)
       go_simp
       all_goals with_reducible rfl
     try simp only [Act.put, lz]
     refine takeT (i := 6) (v := ?_) rfl (by kernel_rfl) (by kernel_rfl) (by kernel_rfl) (by kernel_rfl) (fun _ _ _ h => h) (Or.inl ⟨by rfl, ?_⟩) (by assumption) ?_
     rotate_left
     · intro w hSw
       (try dsimp only at hSw)
       go_simp
       all_goals with_reducible rfl
     try simp only [Act.put, lz]
     refine takeT (i := 7) (v := ?_) rfl (by kernel_rfl) (by kernel_rfl) (by kernel_rfl) (by kernel_rfl) (fun _ _ _ h => h) (Or.inl ⟨by rfl, ?_⟩) (by assumption) ?_
     rotate_left
     · intro w hSw
       (try dsimp only at hSw)
       go_simp
       all_goals with_reducible rfl
     try simp only [Act.put, lz]
     refine takeT (i := 9) (v := ?_) rfl (by kernel_rfl) (by kernel_rfl) (by kernel_rfl) (by kernel_rfl) (fun _ _ _ h => h) (Or.inl ⟨by rfl, ?_⟩) (by assumption) ?_
     rotate_left
     · intro w hSw
       (try dsimp only at hSw)
       go_simp
       all_goals with_reducible rfl
     try simp only [Act.put, lz]
     refine takeT (i := 12) (v := ?_) rfl (by kernel_rfl) (by kernel_rfl) (by kernel_rfl) (by kernel_rfl) (fun _ _ _ h => h) (Or.inl ⟨by rfl, ?_⟩) (by assumption) ?_
     rotate_left
     · intro w hSw
       (try dsimp only at hSw)
       go_simp
       all_goals with_reducible rfl
     try simp only [Act.put, lz]
     refine takeT (i := 13) (v := ?_) rfl (by kernel_rfl) (by kernel_rfl) (by kernel_rfl) (by kernel_rfl) (fun _ _ _ h => h) (Or.inl ⟨by rfl, ?_⟩) (by assumption) ?_
     rotate_left
     · intro w hSw
       (try dsimp only at hSw)
       go_simp
       all_goals with_reducible rfl
     try simp only [Act.put, lz]
     refine takeT (i := 14) (v := ?_) rfl (by kernel_rfl) (by kernel_rfl) (by kernel_rfl) (by kernel_rfl) (fun _ _ _ h => h) (Or.inl ⟨by rfl, ?_⟩) (by assumption) ?_
     rotate_left
     · intro w hSw
       (try dsimp only at hSw)
       go_simp
       all_goals with_reducible rfl
     try simp only [Act.put, lz]
     refine takeT (i := 15) (v := ?_) rfl (by kernel_rfl) (by kernel_rfl) (by kernel_rfl) (by kernel_rfl) (fun _ _ _ h => h) (Or.inl ⟨by rfl, ?_⟩) (by assumption) ?_
     rotate_left
     · intro w hSw
       (try dsimp only at hSw)
       go_simp
       all_goals with_reducible rfl
     try simp only [Act.put, lz]
     refine takeT (i := 16) (v := ?_) rfl (by kernel_rfl) (by kernel_rfl) (by kernel_rfl) (by kernel_rfl) (fun _ _ _ h => h) (Or.inl ⟨by rfl, ?_⟩) (by assumption) ?_
     rotate_left
     · intro w hSw
       (try dsimp only at hSw)
       go_simp
       all_goals with_reducible rfl
     try simp only [Act.put, lz]
     refine takeT (i := 17) (v := ?_) rfl (by kernel_rfl) (by kernel_rfl) (by kernel_rfl) (by kernel_rfl) (fun _ _ _ h => h) (Or.inl ⟨by rfl, ?_⟩) (by assumption) ?_
     rotate_left
     · intro w hSw
       (try dsimp only at hSw)
       go_simp
       all_goals with_reducible rfl
     try simp only [Act.put, lz]
     have hH0 := Qh hHeld
     refine heldT.ready (rs := [1, 10]) (by kernel_rfl) (by simp) ?_
     refine ReadyT.cons rfl (fun K hK => ?_) (ReadyT.cons rfl (fun K hK => ?_) ReadyT.nil)
     · go_simp
       have hA : Below w1.heap.size w1 (wr.drew.drew.alloc (.cells #[] 124)) := hHeld.alloc hHeld.size _
       have own1 : OwnFl (wr.drew.drew.alloc (.cells #[] 124)) w1.heap.size (.slice (some ⟨wr.drew.heap.size, 0, none⟩) 0 0) [] := OwnFl.none_lit wr.drew.drew w1.heap.size hHeld.size
       refine hK.out _ _ (Or.inl (hA)) ?_
       have hHeld := hA
       clear hK K
       try simp only [Act.put, lz]
       refine heldT.ready (rs := [8, 10]) (by kernel_rfl) (by simp) ?_
       refine ReadyT.cons rfl (fun K hK => ?_) (ReadyT.cons rfl (fun K hK => ?_) ReadyT.nil)
       · refine wp_append_files (.tmp 28) (.tmp 34) rfl w1.heap.size (.slice (some ⟨wr.drew.heap.size, 0, none⟩) 0 0) [] rfl own1 (some ⟨g, 0, none⟩) k c (es.take k) rfl (RT.out.below hA) (by simp; have := HP.out.2; omega) hA.size ?_
         intro v2 w2 ho2 hg2
         rw [List.nil_append] at ho2
         have hB : Below w1.heap.size w1 w2 := hA.grown hg2 hA.size (fun q hq => (own1.at_base hq).1)
         refine hK.out _ _ (Or.inl (hB)) ?_
         have hHeld := hB
         clear hK K
         try simp only [Act.put, lz]
         refine heldT.ready (rs := [10]) (by kernel_rfl) (by simp) ?_
         refine ReadyT.cons rfl (fun K hK => ?_) ReadyT.nil
         go_simp
         have hC : Below w1.heap.size w1 (w2.alloc (.cells #[.string ⟨f.s.toArray⟩, .slice f.a f.bs.length f.c, .int .i64 (f.l : Int)] 124)) := hB.alloc hB.size _
         refine hK.out _ _ (Or.inl (hC)) ?_
         have hHeld := hC
         clear hK K
         try simp only [Act.put, lz]
         refine heldT.ready (rs := [11]) (by kernel_rfl) (by simp) ?_
         refine ReadyT.cons rfl (fun K hK => ?_) ReadyT.nil
         refine wp_append_files (.tmp 35) (.tmp 37) rfl w1.heap.size v2 (es.take k) rfl (ho2.alloc _) (some ⟨w2.heap.size, 0, none⟩) 1 1 [f] rfl (RFs.one w2 f) (by have := HP.out; omega) hC.size ?_
         intro v3 w3 ho3 hg3
         have hD : Below w1.heap.size w1 w3 := hC.grown hg3 hC.size (fun q hq => (ho2.at_base hq).1)
         refine hK.out _ _ (Or.inl (hD)) ?_
         have hHeld := hD
         clear hK K
         try simp only [Act.put, lz]
         refine heldT.ready (rs := [18]) (by kernel_rfl) (by simp) ?_
         refine ReadyT.cons rfl (fun K hK => ?_) ReadyT.nil
         refine wp_append_files (.tmp 38) (.tmp 44) rfl w1.heap.size v3 (es.take k ++ [f]) rfl ho3 a2 n2 c2 (es.drop k) rfl (RD.out.below hD) (by have := HP.out; simp only [List.length_append, List.length_cons, List.length_nil]; omega) hD.size ?_
         intro v4 w4 ho4 hg4
         have hE : Below w1.heap.size w1 w4 := hD.grown hg4 hD.size (fun q hq => (ho3.at_base hq).1)
         have HF := PE.out w4 v4 k Hk.out hE ho4
         obtain ⟨a9, c9, hv9⟩ := ho4.form
         subst hv9
         generalize (es.take k ++ [f] ++ es.drop k).length = n9 at HF ⊢
         have HF := Qh HF
         have y1 := c1 w4 hE
         have y2 := zf w4 hE
         refine hK.out _ _ (Or.inl (hE)) ?_
         have hHeld := hE
         clear hK K
         try simp only [Act.put, lz]
         refine takeT2 20 (i := 19) (v := ?_) rfl (by kernel_rfl) (by kernel_rfl) (by kernel_rfl) (by kernel_rfl) (by kernel_rfl) (fun _ _ _ h => h) (Or.inl ⟨by rfl, ?_⟩) (by assumption) ?_
         rotate_left
         · intro w hSw
           (try dsimp only at hSw)
           go_simp
           all_goals with_reducible rfl
         try simp only [Act.put, lz]
         refine takeT (i := 20) (v := ?_) rfl (by kernel_rfl) (by kernel_rfl) (by kernel_rfl) (by kernel_rfl) (fun _ _ _ h => h) (Or.inl ⟨by rfl, ?_⟩) (by assumption) ?_
         rotate_left
         · intro w hSw
           (try dsimp only at hSw)
           go_simp
           all_goals with_reducible rfl
         try simp only [Act.put, lz]
         clear ho4 ho3
         refine heldT.ready (rs := [21]) (by kernel_rfl) (by simp) ?_
         refine ReadyT.cons rfl (fun K hK => ?_) ReadyT.nil
         go_simp
         refine hK.out _ _ (Or.inr rfl) ?_
         clear hK K
         try simp only [Act.put, lz]
         refine heldT.done (by kernel_rfl) ?_ _
         go_wp2
         go_end0
         exact ⟨rfl, HF.out⟩
       go_simp
       have hC : Below w1.heap.size w1 ((wr.drew.drew.alloc (.cells #[] 124)).alloc (.cells #[.string ⟨f.s.toArray⟩, .slice f.a f.bs.length f.c, .int .i64 (f.l : Int)] 124)) := hA.alloc hA.size _
       have src : RFs ((wr.drew.drew.alloc (.cells #[] 124)).alloc (.cells #[.string ⟨f.s.toArray⟩, .slice f.a f.bs.length f.c, .int .i64 (f.l : Int)] 124)) (some ⟨wr.drew.heap.size + 1, 0, none⟩) 1 1 [f] := by have := RFs.one (wr.drew.drew.alloc (.cells #[] 124)) f; simpa using this
       refine hK.out _ _ (Or.inl (hC)) ?_
       have hHeld := hC
       clear hK K
       try simp only [Act.put, lz]
       refine heldT.ready (rs := [8]) (by kernel_rfl) (by simp) ?_
       refine ReadyT.cons rfl (fun K hK => ?_) ReadyT.nil
       refine wp_append_files (.tmp 28) (.tmp 34) rfl w1.heap.size (.slice (some ⟨wr.drew.heap.size, 0, none⟩) 0 0) [] rfl (own1.alloc _) (some ⟨g, 0, none⟩) k c (es.take k) rfl (RT.out.below hC) (by simp; have := HP.out.2; omega) hC.size ?_
       intro v2 w2 ho2 hg2
       rw [List.nil_append] at ho2
       have hB : Below w1.heap.size w1 w2 := hC.grown hg2 hC.size (fun q hq => (own1.at_base hq).1)
       have src2 := src.grown hg2 (fun g o e => by injection e with e; injection e with e; subst e; simp [Value.ownBlock])
       refine hK.out _ _ (Or.inl (hB)) ?_
       have hHeld := hB
       clear hK K
       try simp only [Act.put, lz]
       refine heldT.ready (rs := [11]) (by kernel_rfl) (by simp) ?_
       refine ReadyT.cons rfl (fun K hK => ?_) ReadyT.nil
       refine wp_append_files (.tmp 35) (.tmp 37) rfl w1.heap.size v2 (es.take k) rfl ho2 (some ⟨wr.drew.heap.size + 1, 0, none⟩) 1 1 [f] rfl src2 (by have := HP.out; omega) hB.size ?_
       intro v3 w3 ho3 hg3
       have hD : Below w1.heap.size w1 w3 := hB.grown hg3 hB.size (fun q hq => (ho2.at_base hq).1)
       refine hK.out _ _ (Or.inl (hD)) ?_
       have hHeld := hD
       clear hK K
       try simp only [Act.put, lz]
       refine heldT.ready (rs := [18]) (by kernel_rfl) (by simp) ?_
       refine ReadyT.cons rfl (fun K hK => ?_) ReadyT.nil
       refine wp_append_files (.tmp 38) (.tmp 44) rfl w1.heap.size v3 (es.take k ++ [f]) rfl ho3 a2 n2 c2 (es.drop k) rfl (RD.out.below hD) (by have := HP.out; simp only [List.length_append, List.length_cons, List.length_nil]; omega) hD.size ?_
       intro v4 w4 ho4 hg4
       have hE : Below w1.heap.size w1 w4 := hD.grown hg4 hD.size (fun q hq => (ho3.at_base hq).1)
       have HF := PE.out w4 v4 k Hk.out hE ho4
       obtain ⟨a9, c9, hv9⟩ := ho4.form
       subst hv9
       generalize (es.take k ++ [f] ++ es.drop k).length = n9 at HF ⊢
       have HF := Qh HF
       have y1 := c1 w4 hE
       have y2 := zf w4 hE
       refine hK.out _ _ (Or.inl (hE)) ?_
       have hHeld := hE
       clear hK K
       try simp only [Act.put, lz]
       refine takeT2 20 (i := 19) (v := ?_) rfl (by kernel_rfl) (by kernel_rfl) (by kernel_rfl) (by kernel_rfl) (by kernel_rfl) (fun _ _ _ h => h) (Or.inl ⟨by rfl, ?_⟩) (by assumption) ?_
       rotate_left
       · intro w hSw
         (try dsimp only at hSw)
         go_simp
         all_goals with_reducible rfl
       try simp only [Act.put, lz]
       refine takeT (i := 20) (v := ?_) rfl (by kernel_rfl) (by kernel_rfl) (by kernel_rfl) (by kernel_rfl) (fun _ _ _ h => h) (Or.inl ⟨by rfl, ?_⟩) (by assumption) ?_
       rotate_left
       · intro w hSw
         (try dsimp only at hSw)
         go_simp
         all_goals with_reducible rfl
       try simp only [Act.put, lz]
       clear ho4 ho3
       refine heldT.ready (rs := [21]) (by kernel_rfl) (by simp) ?_
       refine ReadyT.cons rfl (fun K hK => ?_) ReadyT.nil
       go_simp
       refine hK.out _ _ (Or.inr rfl) ?_
       clear hK K
       try simp only [Act.put, lz]
       refine heldT.done (by kernel_rfl) ?_ _
       go_wp2
       go_end0
       exact ⟨rfl, HF.out⟩
     go_simp
     have hA : Below w1.heap.size w1 (wr.drew.drew.alloc (.cells #[.string ⟨f.s.toArray⟩, .slice f.a f.bs.length f.c, .int .i64 (f.l : Int)] 124)) := hHeld.alloc hHeld.size _
     have src : RFs (wr.drew.drew.alloc (.cells #[.string ⟨f.s.toArray⟩, .slice f.a f.bs.length f.c, .int .i64 (f.l : Int)] 124)) (some ⟨wr.drew.heap.size, 0, none⟩) 1 1 [f] := RFs.one wr.drew.drew f
     refine hK.out _ _ (Or.inl (hA)) ?_
     have hHeld := hA
     clear hK K
     try simp only [Act.put, lz]
     refine heldT.ready (rs := [1]) (by kernel_rfl) (by simp) ?_
     refine ReadyT.cons rfl (fun K hK => ?_) ReadyT.nil
     go_simp
     have hC : Below w1.heap.size w1 ((wr.drew.drew.alloc (.cells #[.string ⟨f.s.toArray⟩, .slice f.a f.bs.length f.c, .int .i64 (f.l : Int)] 124)).alloc (.cells #[] 124)) := hA.alloc hA.size _
     have own1 : OwnFl ((wr.drew.drew.alloc (.cells #[.string ⟨f.s.toArray⟩, .slice f.a f.bs.length f.c, .int .i64 (f.l : Int)] 124)).alloc (.cells #[] 124)) w1.heap.size (.slice (some ⟨wr.drew.heap.size + 1, 0, none⟩) 0 0) [] := by have := OwnFl.none_lit (wr.drew.drew.alloc (.cells #[.string ⟨f.s.toArray⟩, .slice f.a f.bs.length f.c, .int .i64 (f.l : Int)] 124)) w1.heap.size hA.size; simpa using this
     have src1 := src.grown (World.grownBy_alloc _ (.cells #[] 124) none) (fun g o e h => by cases h)
     refine hK.out _ _ (Or.inl (hC)) ?_
     have hHeld := hC
     clear hK K
     try simp only [Act.put, lz]
     refine heldT.ready (rs := [8]) (by kernel_rfl) (by simp) ?_
     refine ReadyT.cons rfl (fun K hK => ?_) ReadyT.nil
     refine wp_append_files (.tmp 28) (.tmp 34) rfl w1.heap.size (.slice (some ⟨wr.drew.heap.size + 1, 0, none⟩) 0 0) [] rfl own1 (some ⟨g, 0, none⟩) k c (es.take k) rfl (RT.out.below hC) (by simp; have := HP.out.2; omega) hC.size ?_
     intro v2 w2 ho2 hg2
     rw [List.nil_append] at ho2
     have hB : Below w1.heap.size w1 w2 := hC.grown hg2 hC.size (fun q hq => (own1.at_base hq).1)
     have src2 := src1.grown hg2 (fun g o e => by injection e with e; injection e with e; subst e; simp [Value.ownBlock])
     refine hK.out _ _ (Or.inl (hB)) ?_
     have hHeld := hB
     clear hK K
     try simp only [Act.put, lz]
     refine heldT.ready (rs := [11]) (by kernel_rfl) (by simp) ?_
     refine ReadyT.cons rfl (fun K hK => ?_) ReadyT.nil
     refine wp_append_files (.tmp 35) (.tmp 37) rfl w1.heap.size v2 (es.take k) rfl ho2 (some ⟨wr.drew.heap.size, 0, none⟩) 1 1 [f] rfl src2 (by have := HP.out; omega) hB.size ?_
     intro v3 w3 ho3 hg3
     have hD : Below w1.heap.size w1 w3 := hB.grown hg3 hB.size (fun q hq => (ho2.at_base hq).1)
     refine hK.out _ _ (Or.inl (hD)) ?_
     have hHeld := hD
     clear hK K
     try simp only [Act.put, lz]
     refine heldT.ready (rs := [18]) (by kernel_rfl) (by simp) ?_
     refine ReadyT.cons rfl (fun K hK => ?_) ReadyT.nil
     refine wp_append_files (.tmp 38) (.tmp 44) rfl w1.heap.size v3 (es.take k ++ [f]) rfl ho3 a2 n2 c2 (es.drop k) rfl (RD.out.below hD) (by have := HP.out; simp only [List.length_append, List.length_cons, List.length_nil]; omega) hD.size ?_
     intro v4 w4 ho4 hg4
     have hE : Below w1.heap.size w1 w4 := hD.grown hg4 hD.size (fun q hq => (ho3.at_base hq).1)
     have HF := PE.out w4 v4 k Hk.out hE ho4
     obtain ⟨a9, c9, hv9⟩ := ho4.form
     subst hv9
     generalize (es.take k ++ [f] ++ es.drop k).length = n9 at HF ⊢
     have HF := Qh HF
     have y1 := c1 w4 hE
     have y2 := zf w4 hE
     refine hK.out _ _ (Or.inl (hE)) ?_
     have hHeld := hE
     clear hK K
     try simp only [Act.put, lz]
     refine takeT2 20 (i := 19) (v := ?_) rfl (by kernel_rfl) (by kernel_rfl) (by kernel_rfl) (by kernel_rfl) (by kernel_rfl) (fun _ _ _ h => h) (Or.inl ⟨by rfl, ?_⟩) (by assumption) ?_
     rotate_left
     · intro w hSw
       (try dsimp only at hSw)
       go_simp
       all_goals with_reducible rfl
     try simp only [Act.put, lz]
     refine takeT (i := 20) (v := ?_) rfl (by kernel_rfl) (by kernel_rfl) (by kernel_rfl) (by kernel_rfl) (fun _ _ _ h => h) (Or.inl ⟨by rfl, ?_⟩) (by assumption) ?_
     rotate_left
     · intro w hSw
       (try dsimp only at hSw)
       go_simp
       all_goals with_reducible rfl
     try simp only [Act.put, lz]
     clear ho4 ho3
     refine heldT.ready (rs := [21]) (by kernel_rfl) (by simp) ?_
     refine ReadyT.cons rfl (fun K hK => ?_) ReadyT.nil
     go_simp
     refine hK.out _ _ (Or.inr rfl) ?_
     clear hK K
     try simp only [Act.put, lz]
     refine heldT.done (by kernel_rfl) ?_ _
     go_wp2
     go_end0
     exact ⟨rfl, HF.out⟩
  have hkn : k = n := by omega
  have Hk := Qh (show rput es f.s = k by
   have h2 := rput_skip es f.s k hno (by have := HN.out; omega)
   have h3 := rput_le es f.s
   have := HN.out
   omega)
  have hkn2 : ¬ (k : Int) < (n : Int) := by omega
  clear hno hkn
  go_upto_region 2 with fail
  refine wp_region_held_drew (S := fun x => Below w1.heap.size w1 x) (by kernel_rfl) (Below.drew HX.out) (fun hHeld => ?_)
  refine qi 0 (by assumption) ?_
  iterate 8 (refine qk rfl (by kernel_rfl) (fun _ _ _ h => h) (by intro w hSw; (try dsimp only at hSw); go_simp; all_goals with_reducible rfl) (by (try simp only [Act.put, lz]); rfl) ?_)
  refine qo (qi 8 (by assumption) ?_)
  iterate 11 (refine qu rfl (by kernel_rfl) (fun _ _ _ h => h) (by (try simp only [Act.put, lz]); rfl) ?_)
  refine qo (qi 19 (by assumption) ?_)
  refine qk rfl (by kernel_rfl) (fun _ _ _ h => h) (by intro w hSw; (try dsimp only at hSw); go_simp; all_goals with_reducible rfl) (by (try simp only [Act.put, lz]); rfl) ?_
  refine qo ?_
  refine wpAnyH_done (by kernel_rfl) ?_ _
  clear hHeld
  have HX := Qh (Below.drew HX.out)
  go_upto_region 4 with fail
  have kc1 : ∀ x, (Instr.slice 73 (.slice a n c) none (some (.int .i64 (k : Int))) none).run Tryz.prog x = .ok (.slice a k c) x := run_cut3_to (P := Tryz.prog) 73 124 Tryz.underlying73 info_file _ n c k (by omega)
  obtain ⟨a2, ha2⟩ : ∃ a2, a2 = fromA3 a c k := ⟨_, rfl⟩
  obtain ⟨n2, hn2⟩ : ∃ n2, n2 = n - k := ⟨_, rfl⟩
  obtain ⟨c2, hc2⟩ : ∃ c2, c2 = c - k := ⟨_, rfl⟩
  have kc2 : ∀ x, (Instr.slice 73 (.slice a n c) (some (.int .i64 (k : Int))) none none).run Tryz.prog x = .ok (.slice a2 n2 c2) x := fun x => by
   have := run_cut3_from (P := Tryz.prog) 73 124 Tryz.underlying73 info_file a n c k (by omega) x
   rw [this, ha2, hn2, hc2]
  have RS := HK.out.2.1.rfs
  rw [← HN.out] at RS
  have RT := Qh (RS.take (k := k) hk)
  have RD0 := RS.from_ (k := k) hk
  rw [← ha2, ← hn2, ← hc2] at RD0
  have RD := Qh RD0
  have hl1 : (es.take k).length = k := by rw [List.length_take, ← HN.out]; omega
  have hn3 : k + n2 ≤ 63 := by omega
  have HP := Qh (Qa hl1 hn3)
  have zf := fun (x : World) (hx : Below w1.heap.size w1 x) => (World.frozen?_of_block (w := w1) (a := ⟨rp, 1, none⟩) (hx.block rp hrl)).trans z1
  clear RS RD0 ha2 hn2 hc2 hl1
  refine region_tail (fun x => Below w1.heap.size w1 x) 21 (by kernel_rfl) (Below.drew HX.out) (fun hHeld => ?_)
  refine takeT (i := 0) (v := ?_) rfl (by kernel_rfl) (by kernel_rfl) (by kernel_rfl) (by kernel_rfl) (fun _ _ _ h => h) (Or.inl ⟨by rfl, ?_⟩) (by assumption) ?_
  rotate_left
  · intro w hSw
    (try dsimp only at hSw)
    go_simp
    all_goals with_reducible rfl
  try simp only [Act.put, lz]
  refine takeT (i := 2) (v := ?_) rfl (by kernel_rfl) (by kernel_rfl) (by kernel_rfl) (by kernel_rfl) (fun _ _ _ h => h) (Or.inl ⟨by rfl, ?_⟩) (by assumption) ?_
  rotate_left
  · intro w hSw
    (try dsimp only at hSw)
    go_simp
    all_goals with_reducible rfl
  try simp only [Act.put, lz]
  refine takeT (i := 3) (v := ?_) rfl (by kernel_rfl) (by kernel_rfl) (by kernel_rfl) (by kernel_rfl) (fun _ _ _ h => h) (Or.inl ⟨by rfl, ?_⟩) (by assumption) ?_
  rotate_left
  · intro w hSw
    (try dsimp only at hSw)
    go_simp
    all_goals with_reducible rfl
  try simp only [Act.put, lz]
  refine takeT (i := 4) (v := ?_) rfl (by kernel_rfl) (by kernel_rfl) (by kernel_rfl) (by kernel_rfl) (fun _ _ _ h => h) (Or.inl ⟨by rfl, ?_⟩) (by assumption) ?_
  rotate_left
  · intro w hSw
    (try dsimp only at hSw)
    go_simp
    all_goals with_reducible rfl
  try simp only [Act.put, lz]
  refine takeT (i := 5) (v := ?_) rfl (by kernel_rfl) (by kernel_rfl) (by kernel_rfl) (by kernel_rfl) (fun _ _ _ h => h) (Or.inl ⟨by rfl, ?_⟩) (by assumption) ?_
  rotate_left
  · intro w hSw
    (try dsimp only at hSw)
    go_simp
    all_goals with_reducible rfl
  try simp only [Act.put, lz]
  refine takeT (i := 6) (v := ?_) rfl (by kernel_rfl) (by kernel_rfl) (by kernel_rfl) (by kernel_rfl) (fun _ _ _ h => h) (Or.inl ⟨by rfl, ?_⟩) (by assumption) ?_
  rotate_left
  · intro w hSw
    (try dsimp only at hSw)
    go_simp
    all_goals with_reducible rfl
  try simp only [Act.put, lz]
  refine takeT (i := 7) (v := ?_) rfl (by kernel_rfl) (by kernel_rfl) (by kernel_rfl) (by kernel_rfl) (fun _ _ _ h => h) (Or.inl ⟨by rfl, ?_⟩) (by assumption) ?_
  rotate_left
  · intro w hSw
    (try dsimp only at hSw)
    go_simp
    all_goals with_reducible rfl
  try simp only [Act.put, lz]
  refine takeT (i := 9) (v := ?_) rfl (by kernel_rfl) (by kernel_rfl) (by kernel_rfl) (by kernel_rfl) (fun _ _ _ h => h) (Or.inl ⟨by rfl, ?_⟩) (by assumption) ?_
  rotate_left
  · intro w hSw
    (try dsimp only at hSw)
    go_simp
    all_goals with_reducible rfl
  try simp only [Act.put, lz]
  refine takeT (i := 12) (v := ?_) rfl (by kernel_rfl) (by kernel_rfl) (by kernel_rfl) (by kernel_rfl) (fun _ _ _ h => h) (Or.inl ⟨by rfl, ?_⟩) (by assumption) ?_
  rotate_left
  · intro w hSw
    (try dsimp only at hSw)
    go_simp
    all_goals with_reducible rfl
  try simp only [Act.put, lz]
  refine takeT (i := 13) (v := ?_) rfl (by kernel_rfl) (by kernel_rfl) (by kernel_rfl) (by kernel_rfl) (fun _ _ _ h => h) (Or.inl ⟨by rfl, ?_⟩) (by assumption) ?_
  rotate_left
  · intro w hSw
    (try dsimp only at hSw)
    go_simp
    all_goals with_reducible rfl
  try simp only [Act.put, lz]
  refine takeT (i := 14) (v := ?_) rfl (by kernel_rfl) (by kernel_rfl) (by kernel_rfl) (by kernel_rfl) (fun _ _ _ h => h) (Or.inl ⟨by rfl, ?_⟩) (by assumption) ?_
  rotate_left
  · intro w hSw
    (try dsimp only at hSw)
    go_simp
    all_goals with_reducible rfl
  try simp only [Act.put, lz]
  refine takeT (i := 15) (v := ?_) rfl (by kernel_rfl) (by kernel_rfl) (by kernel_rfl) (by kernel_rfl) (fun _ _ _ h => h) (Or.inl ⟨by rfl, ?_⟩) (by assumption) ?_
  rotate_left
  · intro w hSw
    (try dsimp only at hSw)
    go_simp
    all_goals with_reducible rfl
  try simp only [Act.put, lz]
  refine takeT (i := 16) (v := ?_) rfl (by kernel_rfl) (by kernel_rfl) (by kernel_rfl) (by kernel_rfl) (fun _ _ _ h => h) (Or.inl ⟨by rfl, ?_⟩) (by assumption) ?_
  rotate_left
  · intro w hSw
    (try dsimp only at hSw)
    go_simp
    all_goals with_reducible rfl
  try simp only [Act.put, lz]
  refine takeT (i := 17) (v := ?_) rfl (by kernel_rfl) (by kernel_rfl) (by kernel_rfl) (by kernel_rfl) (fun _ _ _ h => h) (Or.inl ⟨by rfl, ?_⟩) (by assumption) ?_
  rotate_left
  · intro w hSw
    (try dsimp only at hSw)
    go_simp
    all_goals with_reducible rfl
  try simp only [Act.put, lz]
  have hH0 := Qh hHeld
  refine heldT.ready (rs := [1, 10]) (by kernel_rfl) (by simp) ?_
  refine ReadyT.cons rfl (fun K hK => ?_) (ReadyT.cons rfl (fun K hK => ?_) ReadyT.nil)
  · go_simp
    have hA : Below w1.heap.size w1 (wr.drew.drew.alloc (.cells #[] 124)) := hHeld.alloc hHeld.size _
    have own1 : OwnFl (wr.drew.drew.alloc (.cells #[] 124)) w1.heap.size (.slice (some ⟨wr.drew.heap.size, 0, none⟩) 0 0) [] := OwnFl.none_lit wr.drew.drew w1.heap.size hHeld.size
    refine hK.out _ _ (Or.inl (hA)) ?_
    have hHeld := hA
    clear hK K
    try simp only [Act.put, lz]
    refine heldT.ready (rs := [8, 10]) (by kernel_rfl) (by simp) ?_
    refine ReadyT.cons rfl (fun K hK => ?_) (ReadyT.cons rfl (fun K hK => ?_) ReadyT.nil)
    · refine wp_append_files (.tmp 28) (.tmp 34) rfl w1.heap.size (.slice (some ⟨wr.drew.heap.size, 0, none⟩) 0 0) [] rfl own1 a k c (es.take k) rfl (RT.out.below hA) (by simp; have := HP.out.2; omega) hA.size ?_
      intro v2 w2 ho2 hg2
      rw [List.nil_append] at ho2
      have hB : Below w1.heap.size w1 w2 := hA.grown hg2 hA.size (fun q hq => (own1.at_base hq).1)
      refine hK.out _ _ (Or.inl (hB)) ?_
      have hHeld := hB
      clear hK K
      try simp only [Act.put, lz]
      refine heldT.ready (rs := [10]) (by kernel_rfl) (by simp) ?_
      refine ReadyT.cons rfl (fun K hK => ?_) ReadyT.nil
      go_simp
      have hC : Below w1.heap.size w1 (w2.alloc (.cells #[.string ⟨f.s.toArray⟩, .slice f.a f.bs.length f.c, .int .i64 (f.l : Int)] 124)) := hB.alloc hB.size _
      refine hK.out _ _ (Or.inl (hC)) ?_
      have hHeld := hC
      clear hK K
      try simp only [Act.put, lz]
      refine heldT.ready (rs := [11]) (by kernel_rfl) (by simp) ?_
      refine ReadyT.cons rfl (fun K hK => ?_) ReadyT.nil
      refine wp_append_files (.tmp 35) (.tmp 37) rfl w1.heap.size v2 (es.take k) rfl (ho2.alloc _) (some ⟨w2.heap.size, 0, none⟩) 1 1 [f] rfl (RFs.one w2 f) (by have := HP.out; omega) hC.size ?_
      intro v3 w3 ho3 hg3
      have hD : Below w1.heap.size w1 w3 := hC.grown hg3 hC.size (fun q hq => (ho2.at_base hq).1)
      refine hK.out _ _ (Or.inl (hD)) ?_
      have hHeld := hD
      clear hK K
      try simp only [Act.put, lz]
      refine heldT.ready (rs := [18]) (by kernel_rfl) (by simp) ?_
      refine ReadyT.cons rfl (fun K hK => ?_) ReadyT.nil
      refine wp_append_files (.tmp 38) (.tmp 44) rfl w1.heap.size v3 (es.take k ++ [f]) rfl ho3 a2 n2 c2 (es.drop k) rfl (RD.out.below hD) (by have := HP.out; simp only [List.length_append, List.length_cons, List.length_nil]; omega) hD.size ?_
      intro v4 w4 ho4 hg4
      have hE : Below w1.heap.size w1 w4 := hD.grown hg4 hD.size (fun q hq => (ho3.at_base hq).1)
      have HF := PE.out w4 v4 k Hk.out hE ho4
      obtain ⟨a9, c9, hv9⟩ := ho4.form
      subst hv9
      generalize (es.take k ++ [f] ++ es.drop k).length = n9 at HF ⊢
      have HF := Qh HF
      have y1 := c1 w4 hE
      have y2 := zf w4 hE
      refine hK.out _ _ (Or.inl (hE)) ?_
      have hHeld := hE
      clear hK K
      try simp only [Act.put, lz]
      refine takeT2 20 (i := 19) (v := ?_) rfl (by kernel_rfl) (by kernel_rfl) (by kernel_rfl) (by kernel_rfl) (by kernel_rfl) (fun _ _ _ h => h) (Or.inl ⟨by rfl, ?_⟩) (by assumption) ?_
      rotate_left
      · intro w hSw
        (try dsimp only at hSw)
        go_simp
        all_goals with_reducible rfl
      try simp only [Act.put, lz]
      refine takeT (i := 20) (v := ?_) rfl (by kernel_rfl) (by kernel_rfl) (by kernel_rfl) (by kernel_rfl) (fun _ _ _ h => h) (Or.inl ⟨by rfl, ?_⟩) (by assumption) ?_
      rotate_left
      · intro w hSw
        (try dsimp only at hSw)
        go_simp
        all_goals with_reducible rfl
      try simp only [Act.put, lz]
      clear ho4 ho3
      refine heldT.ready (rs := [21]) (by kernel_rfl) (by simp) ?_
      refine ReadyT.cons rfl (fun K hK => ?_) ReadyT.nil
      go_simp
      refine hK.out _ _ (Or.inr rfl) ?_
      clear hK K
      try simp only [Act.put, lz]
      refine heldT.done (by kernel_rfl) ?_ _
      go_wp2
      go_end0
      exact ⟨rfl, HF.out⟩
    go_simp
    have hC : Below w1.heap.size w1 ((wr.drew.drew.alloc (.cells #[] 124)).alloc (.cells #[.string ⟨f.s.toArray⟩, .slice f.a f.bs.length f.c, .int .i64 (f.l : Int)] 124)) := hA.alloc hA.size _
    have src : RFs ((wr.drew.drew.alloc (.cells #[] 124)).alloc (.cells #[.string ⟨f.s.toArray⟩, .slice f.a f.bs.length f.c, .int .i64 (f.l : Int)] 124)) (some ⟨wr.drew.heap.size + 1, 0, none⟩) 1 1 [f] := by have := RFs.one (wr.drew.drew.alloc (.cells #[] 124)) f; simpa using this
    refine hK.out _ _ (Or.inl (hC)) ?_
    have hHeld := hC
    clear hK K
    try simp only [Act.put, lz]
    refine heldT.ready (rs := [8]) (by kernel_rfl) (by simp) ?_
    refine ReadyT.cons rfl (fun K hK => ?_) ReadyT.nil
    refine wp_append_files (.tmp 28) (.tmp 34) rfl w1.heap.size (.slice (some ⟨wr.drew.heap.size, 0, none⟩) 0 0) [] rfl (own1.alloc _) a k c (es.take k) rfl (RT.out.below hC) (by simp; have := HP.out.2; omega) hC.size ?_
    intro v2 w2 ho2 hg2
    rw [List.nil_append] at ho2
    have hB : Below w1.heap.size w1 w2 := hC.grown hg2 hC.size (fun q hq => (own1.at_base hq).1)
    have src2 := src.grown hg2 (fun g o e => by injection e with e; injection e with e; subst e; simp [Value.ownBlock])
    refine hK.out _ _ (Or.inl (hB)) ?_
    have hHeld := hB
    clear hK K
    try simp only [Act.put, lz]
    refine heldT.ready (rs := [11]) (by kernel_rfl) (by simp) ?_
    refine ReadyT.cons rfl (fun K hK => ?_) ReadyT.nil
    refine wp_append_files (.tmp 35) (.tmp 37) rfl w1.heap.size v2 (es.take k) rfl ho2 (some ⟨wr.drew.heap.size + 1, 0, none⟩) 1 1 [f] rfl src2 (by have := HP.out; omega) hB.size ?_
    intro v3 w3 ho3 hg3
    have hD : Below w1.heap.size w1 w3 := hB.grown hg3 hB.size (fun q hq => (ho2.at_base hq).1)
    refine hK.out _ _ (Or.inl (hD)) ?_
    have hHeld := hD
    clear hK K
    try simp only [Act.put, lz]
    refine heldT.ready (rs := [18]) (by kernel_rfl) (by simp) ?_
    refine ReadyT.cons rfl (fun K hK => ?_) ReadyT.nil
    refine wp_append_files (.tmp 38) (.tmp 44) rfl w1.heap.size v3 (es.take k ++ [f]) rfl ho3 a2 n2 c2 (es.drop k) rfl (RD.out.below hD) (by have := HP.out; simp only [List.length_append, List.length_cons, List.length_nil]; omega) hD.size ?_
    intro v4 w4 ho4 hg4
    have hE : Below w1.heap.size w1 w4 := hD.grown hg4 hD.size (fun q hq => (ho3.at_base hq).1)
    have HF := PE.out w4 v4 k Hk.out hE ho4
    obtain ⟨a9, c9, hv9⟩ := ho4.form
    subst hv9
    generalize (es.take k ++ [f] ++ es.drop k).length = n9 at HF ⊢
    have HF := Qh HF
    have y1 := c1 w4 hE
    have y2 := zf w4 hE
    refine hK.out _ _ (Or.inl (hE)) ?_
    have hHeld := hE
    clear hK K
    try simp only [Act.put, lz]
    refine takeT2 20 (i := 19) (v := ?_) rfl (by kernel_rfl) (by kernel_rfl) (by kernel_rfl) (by kernel_rfl) (by kernel_rfl) (fun _ _ _ h => h) (Or.inl ⟨by rfl, ?_⟩) (by assumption) ?_
    rotate_left
    · intro w hSw
      (try dsimp only at hSw)
      go_simp
      all_goals with_reducible rfl
    try simp only [Act.put, lz]
    refine takeT (i := 20) (v := ?_) rfl (by kernel_rfl) (by kernel_rfl) (by kernel_rfl) (by kernel_rfl) (fun _ _ _ h => h) (Or.inl ⟨by rfl, ?_⟩) (by assumption) ?_
    rotate_left
    · intro w hSw
      (try dsimp only at hSw)
      go_simp
      all_goals with_reducible rfl
    try simp only [Act.put, lz]
    clear ho4 ho3
    refine heldT.ready (rs := [21]) (by kernel_rfl) (by simp) ?_
    refine ReadyT.cons rfl (fun K hK => ?_) ReadyT.nil
    go_simp
    refine hK.out _ _ (Or.inr rfl) ?_
    clear hK K
    try simp only [Act.put, lz]
    refine heldT.done (by kernel_rfl) ?_ _
    go_wp2
    go_end0
    exact ⟨rfl, HF.out⟩
  go_simp
  have hA : Below w1.heap.size w1 (wr.drew.drew.alloc (.cells #[.string ⟨f.s.toArray⟩, .slice f.a f.bs.length f.c, .int .i64 (f.l : Int)] 124)) := hHeld.alloc hHeld.size _
  have src : RFs (wr.drew.drew.alloc (.cells #[.string ⟨f.s.toArray⟩, .slice f.a f.bs.length f.c, .int .i64 (f.l : Int)] 124)) (some ⟨wr.drew.heap.size, 0, none⟩) 1 1 [f] := RFs.one wr.drew.drew f
  refine hK.out _ _ (Or.inl (hA)) ?_
  have hHeld := hA
  clear hK K
  try simp only [Act.put, lz]
  refine heldT.ready (rs := [1]) (by kernel_rfl) (by simp) ?_
  refine ReadyT.cons rfl (fun K hK => ?_) ReadyT.nil
  go_simp
  have hC : Below w1.heap.size w1 ((wr.drew.drew.alloc (.cells #[.string ⟨f.s.toArray⟩, .slice f.a f.bs.length f.c, .int .i64 (f.l : Int)] 124)).alloc (.cells #[] 124)) := hA.alloc hA.size _
  have own1 : OwnFl ((wr.drew.drew.alloc (.cells #[.string ⟨f.s.toArray⟩, .slice f.a f.bs.length f.c, .int .i64 (f.l : Int)] 124)).alloc (.cells #[] 124)) w1.heap.size (.slice (some ⟨wr.drew.heap.size + 1, 0, none⟩) 0 0) [] := by have := OwnFl.none_lit (wr.drew.drew.alloc (.cells #[.string ⟨f.s.toArray⟩, .slice f.a f.bs.length f.c, .int .i64 (f.l : Int)] 124)) w1.heap.size hA.size; simpa using this
  have src1 := src.grown (World.grownBy_alloc _ (.cells #[] 124) none) (fun g o e h => by cases h)
  refine hK.out _ _ (Or.inl (hC)) ?_
  have hHeld := hC
  clear hK K
  try simp only [Act.put, lz]
  refine heldT.ready (rs := [8]) (by kernel_rfl) (by simp) ?_
  refine ReadyT.cons rfl (fun K hK => ?_) ReadyT.nil
  refine wp_append_files (.tmp 28) (.tmp 34) rfl w1.heap.size (.slice (some ⟨wr.drew.heap.size + 1, 0, none⟩) 0 0) [] rfl own1 a k c (es.take k) rfl (RT.out.below hC) (by simp; have := HP.out.2; omega) hC.size ?_
  intro v2 w2 ho2 hg2
  rw [List.nil_append] at ho2
  have hB : Below w1.heap.size w1 w2 := hC.grown hg2 hC.size (fun q hq => (own1.at_base hq).1)
  have src2 := src1.grown hg2 (fun g o e => by injection e with e; injection e with e; subst e; simp [Value.ownBlock])
  refine hK.out _ _ (Or.inl (hB)) ?_
  have hHeld := hB
  clear hK K
  try simp only [Act.put, lz]
  refine heldT.ready (rs := [11]) (by kernel_rfl) (by simp) ?_
  refine ReadyT.cons rfl (fun K hK => ?_) ReadyT.nil
  refine wp_append_files (.tmp 35) (.tmp 37) rfl w1.heap.size v2 (es.take k) rfl ho2 (some ⟨wr.drew.heap.size, 0, none⟩) 1 1 [f] rfl src2 (by have := HP.out; omega) hB.size ?_
  intro v3 w3 ho3 hg3
  have hD : Below w1.heap.size w1 w3 := hB.grown hg3 hB.size (fun q hq => (ho2.at_base hq).1)
  refine hK.out _ _ (Or.inl (hD)) ?_
  have hHeld := hD
  clear hK K
  try simp only [Act.put, lz]
  refine heldT.ready (rs := [18]) (by kernel_rfl) (by simp) ?_
  refine ReadyT.cons rfl (fun K hK => ?_) ReadyT.nil
  refine wp_append_files (.tmp 38) (.tmp 44) rfl w1.heap.size v3 (es.take k ++ [f]) rfl ho3 a2 n2 c2 (es.drop k) rfl (RD.out.below hD) (by have := HP.out; simp only [List.length_append, List.length_cons, List.length_nil]; omega) hD.size ?_
  intro v4 w4 ho4 hg4
  have hE : Below w1.heap.size w1 w4 := hD.grown hg4 hD.size (fun q hq => (ho3.at_base hq).1)
  have HF := PE.out w4 v4 k Hk.out hE ho4
  obtain ⟨a9, c9, hv9⟩ := ho4.form
  subst hv9
  generalize (es.take k ++ [f] ++ es.drop k).length = n9 at HF ⊢
  have HF := Qh HF
  have y1 := c1 w4 hE
  have y2 := zf w4 hE
  refine hK.out _ _ (Or.inl (hE)) ?_
  have hHeld := hE
  clear hK K
  try simp only [Act.put, lz]
  refine takeT2 20 (i := 19) (v := ?_) rfl (by kernel_rfl) (by kernel_rfl) (by kernel_rfl) (by kernel_rfl) (by kernel_rfl) (fun _ _ _ h => h) (Or.inl ⟨by rfl, ?_⟩) (by assumption) ?_
  rotate_left
  · intro w hSw
    (try dsimp only at hSw)
    go_simp
    all_goals with_reducible rfl
  try simp only [Act.put, lz]
  refine takeT (i := 20) (v := ?_) rfl (by kernel_rfl) (by kernel_rfl) (by kernel_rfl) (by kernel_rfl) (fun _ _ _ h => h) (Or.inl ⟨by rfl, ?_⟩) (by assumption) ?_
  rotate_left
  · intro w hSw
    (try dsimp only at hSw)
    go_simp
    all_goals with_reducible rfl
  try simp only [Act.put, lz]
  clear ho4 ho3
  refine heldT.ready (rs := [21]) (by kernel_rfl) (by simp) ?_
  refine ReadyT.cons rfl (fun K hK => ?_) ReadyT.nil
  go_simp
  refine hK.out _ _ (Or.inr rfl) ?_
  clear hK K
  try simp only [Act.put, lz]
  refine heldT.done (by kernel_rfl) ?_ _
  go_wp2
  go_end0
  exact ⟨rfl, HF.out⟩
end
end
section
open Go.RowKit
theorem wp_append_sl {P : Program} {w : World} {o : Oper} {a : Act} {K : Act → World → Prop} {Q : Exit → Act → World → Prop} (s x : Operand) (t : TypeId)
 (ho : o.op = .call { callee := .builtin .append, args := #[s, x], argTypes := #[t, t] })
 (base : Nat) (e : TypeId) (ht : P.underlying t = some (.slice e)) (hi : (P.info? e).map (fun i => (i.zero, i.size, i.bytes)) = some (some (.int .u8 0), 1, 1))
 (v : Value) (bs : List Nat) (hs : a.eval s = v) (hown : OwnB w base e v bs)
 (B : Nat) (A : Option Addr) (m c : Nat) (cs : List Nat) (hx : a.eval x = .slice A m c) (hc : Sl w B A m c cs)
 (hbytes : bs.length + m ≤ 140737488355328) (hbase : base ≤ w.heap.size)
 (h : ∀ v' w', OwnB w' base e v' (bs ++ cs) → w.grownBy w' v.ownBlock → (v'.ownBlock = v.ownBlock ∨ v'.ownBlock = some w.heap.size) → K (a.put o.dst v') w') :
 o.wp P a w K Q := by
 obtain ⟨i, hi, hz0, hz1, hz2⟩ := info_parts hi
 cases A with
 | none =>
  have hc0 := hc.none_ rfl
  have hm0 : m = 0 := by have := hc.le; omega
  subst hc0 hm0
  have hcs : cs = [] := List.eq_nil_of_length_eq_zero hc.length
  subst hcs
  have hrun := run_append_owned_none (P := P) (w := w) base t o.type e i 1 ht hi v bs.length (bs.map bv) hown
  unfold Oper.wp
  simp [execOp, ho, resolve, invoke, builtin, hs, hx, hrun, Result.andThen]
  exact h v w (by simpa using hown) (World.grownBy.refl w _) (.inl rfl)
 | some ad =>
  obtain ⟨v', w', hr, h1, h2, h3, h4⟩ := run_append_own_at (P := P) w base t o.type e i (.int .u8 0) 1 1 ht hi hz0 hz1 hz2 rfl (by decide) v bs.length (bs.map bv) hown ad m c (cs.map bv) (by rw [List.length_map, hc.length]; omega) hc.news (bv_one cs)
   (by unfold maxLen; omega) (by omega) hbase
  unfold Oper.wp execOp
  simp only [ho, resolve, invoke, builtin, Sem.run_bind, Sem.run_pure, Result.andThen_ok, List.map_toArray, List.map_cons, List.map_nil, hs, hx, hr]
  refine h v' w' ?_ h2 h4
  have := hc.length
  unfold OwnB
  rw [List.length_append, List.map_append, this]
  exact h1
end
section
section
open Go.RowKit
open Go.Maps
attribute [local go_sem] Oper.semAt_some
section
variable {w : World} {rp : Nat} {t : St} {O : Nat → Prop} {a : Option Addr} {c : Nat} {es : List REnt}
theorem RdC.grow (h : RdC w rp t O a c es) {w1 : World} (hb : Below w.heap.size w w1) : RdC w1 rp t (fun k => O k ∨ (w.heap.size ≤ k ∧ k < w1.heap.size)) a c es := by
 have h1 := h.below hb
 refine ⟨h1.cells, h1.own, h1.D_, h1.good, fun e he => ⟨(h1.bytes e he).1, fun hp b o e' => ?_⟩, .inl h1.rpO, fun g hg => ⟨.inl (h1.ownO g hg).1, (h1.ownO g hg).2⟩, fun k hk => ?_, h1.fuse_, h1.fails_⟩
 · have := (h1.bytes e he).2 hp b o e'
   exact ⟨.inl this.1, this.2⟩
 rcases hk with hk | hk
 · exact h1.lt k hk
 exact hk.2
theorem RMv.widen {w w1 w' : World} {rp : Nat} {O : Nat → Prop} {t : St} (hb : Below w.heap.size w w1) (h : RMv w1 rp (fun k => O k ∨ (w.heap.size ≤ k ∧ k < w1.heap.size)) t w') : RMv w rp O t w' := by
 obtain ⟨O', h1, h2, h3⟩ := h
 refine ⟨O', h1, (But.of_below (O := O) hb).trans h2 (fun i hi => hi.imp id (fun h => h.1)), fun k hk => ?_⟩
 rcases h3 k hk with (h4 | h4) | h4
 · exact .inl h4
 · exact .inr h4.1
 exact .inr (Nat.le_trans hb.size h4)
theorem room_wrap {a b : Nat} (h : b ≤ a) (ha : a ≤ 1048576) : IntKind.i64.wrap ((a : Int) - (b : Int)) = ((a - b : Nat) : Int) := by rw [IntKind.wrap_i64]; omega
theorem rwrite_early (h : RdC w rp t O a c es) (s : ByteArray) (hsz : s.size ≤ maxLen) (ba : Option Addr) (bn bc : Nat) (b : List Nat) (hb : Sl w w.heap.size ba bn bc b) (hbn : bn ≤ 140737488351232) (hearly : t.fuse = 0 ∨ nmOk s.data.toList = false) :
 Calls Tryz.prog 66 #[.pointer (some ⟨rp, 0, none⟩), .string s, .slice ba bn bc] w fun e w' => e = .returned (.int .i64 (t.write s.data.toList b).1) ∧ RMv w rp O (t.write s.data.toList b).2 w' := by
 by_cases hf : t.fuse = 0
 · have e : t.write s.data.toList b = (42, t) := by unfold St.write; rw [if_pos hf]
   rw [e]
   have CD := Qh (rcall_dead h hf)
   have HR := Qh (rowner ⟨a, c, es, h⟩)
   clear h
   go_enter Tryz.func66, Tryz.ntmps66
   go_wp2_with fail
   refine CD.out.mono ?_
   rintro e1 w1 ⟨rfl, rfl⟩
   go_wp2
   go_ret
   exact ⟨rfl, HR.out⟩
 have CD := Qh (rcall_do h hf)
 have NM := Qh (rname_any s hsz)
 have hcap := h.len_
 have hbl := hb.length
 have hnm := hearly.resolve_left hf
 · have e : t.write s.data.toList b = (1, t.burnt) := by unfold St.write; rw [if_neg hf, if_pos hnm]
   rw [e]
   rw [hnm] at NM
   clear h e
   go_enter Tryz.func66, Tryz.ntmps66
   go_wp2_with fail
   refine CD.out.mono ?_
   rintro e1 w1 ⟨rfl, h1, b1⟩
   have HR := Qh (RMv.then b1 (rowner ⟨a, c, es, h1⟩))
   clear h1 b1 CD
   go_wp2_with fail
   refine (NM.out _).mono ?_
   rintro e1 w2 ⟨rfl, rfl⟩
   go_wp2
   go_ret
   exact ⟨rfl, HR.out⟩
theorem rwrite_new (h : RdC w rp t O a c es) (s : ByteArray) (hsz : s.size ≤ maxLen) (ba : Option Addr) (bn bc : Nat) (b : List Nat) (hb : Sl w w.heap.size ba bn bc b) (hbn : bn ≤ 140737488351232) (hfar : 0 < bn → ∀ k o, ba = some ⟨k, o, none⟩ → ¬ O k)
 (hf : ¬ t.fuse = 0) (hnm1 : nmOk s.data.toList = true) (hi : ¬ ridx es s.data.toList < es.length) (hfit1 : fitsB t.D t.room s.data.toList b.length = true) :
 Calls Tryz.prog 66 #[.pointer (some ⟨rp, 0, none⟩), .string s, .slice ba bn bc] w fun e w' => e = .returned (.int .i64 (t.write s.data.toList b).1) ∧ RMv w rp O (t.write s.data.toList b).2 w' := by
 have CD := Qh (rcall_do h hf)
 have NM := Qh (rname_any s hsz)
 have hcap := h.len_
 have hbl := hb.length
 have hnm : ¬ nmOk s.data.toList = false := by rw [hnm1]; decide
 rw [hnm1] at NM
 have hSE : size t.D = es.length := by rw [h.D_, rD_size]
 have hT1 := h.good.tot_
 have hT2 := h.good.room_
 have hfat := h.gone_ hi
 have hfit : ¬ fitsB t.D t.room s.data.toList b.length = false := by rw [hfit1]; decide
 have e : t.write s.data.toList b = (0, { t.burnt with D := t.D.put (.string s.data.toList) (.held ⟨b, 0⟩) }) := by
  unfold St.write
  rw [if_neg hf, if_neg hnm, if_neg hfit, hfat]
  rfl
 rw [e]
 have hcond : es.length < 64 ∧ tot t.D + bn ≤ t.room := by
  unfold fitsB at hfit1
  rw [hfat, hSE, hbl] at hfit1
  simpa using hfit1
 have hG : Good (t.D.put (.string s.data.toList) (.held ⟨b, 0⟩)) t.room := h.good.put hnm1 (Nat.zero_le _) hb.byte (.inr (by rw [hSE]; exact hcond.1)) (by rw [hfat]; show tot t.D + b.length ≤ t.room + 0; rw [hbl]; omega)
 have hne : ∀ e ∈ es, e.s ≠ s.data.toList := by
  intro e he hs
  obtain ⟨j, hj⟩ := List.getElem?_of_mem he
  have hskip : ∀ (l : List REnt) (j : Nat) (e : REnt), l[j]? = some e → e.s = s.data.toList → ridx l s.data.toList ≤ j := by
   intro l
   induction l with
   | nil => intro j e hj; simp at hj
   | cons y l ih =>
    intro j e hj hs
    unfold ridx
    split
    · exact Nat.zero_le _
    rename_i hy
    cases j with
    | zero =>
     have : y = e := by simpa using hj
     subst this
     exact absurd hs hy
    | succ j =>
     have := ih j e (by simpa using hj) hs
     omega
  have h1 := hskip es j e hj hs
  have h2 := (List.getElem?_eq_some_iff.1 hj).1
  omega
 obtain ⟨LF, hLF⟩ : ∃ LF, LF = t.room - tot t.D := ⟨_, rfl⟩
 have wr := room_wrap hT1 hT2
 rw [← hLF] at wr
 have HH := Qh (Qa h (Qa hG (Qa hne hb)))
 have hlt2 : decide ((LF : Int) < (bn : Int)) = false := by simp; omega
 have hlt3 : ¬ (LF : Int) < (bn : Int) := by omega
 have h64 : decide ((64 : Int) ≤ (es.length : Int)) = false := by simp; omega
 obtain ⟨n, hn⟩ : ∃ n, n = es.length := ⟨_, rfl⟩
 rw [← hn] at h64
 have HN := Qh (Qa hn hcond)
 clear h e hG hb hne hn hcond hLF
 go_enter Tryz.func66, Tryz.ntmps66
 go_wp2_with fail
 refine CD.out.mono ?_
 rintro e1 w1 ⟨rfl, h1, b1⟩
 have AT := rat_any h1 s
 unfold ratI at AT
 rw [if_neg hi] at AT
 have AT := Qh AT
 have c0 : w1.cell? ⟨rp, 0, none⟩ = some (.int .i64 (t.room : Int)) := h1.cell.1
 have c1 := h1.cell.2.1
 rw [← HN.out.1] at c1
 have c0f := far_cellR c0
 have c1f := far_cellR c1
 have USf := Qh (fun (x : World) (hx : Below w1.heap.size w1 x) => (show Calls Tryz.prog 121 #[.pointer (some ⟨rp, 0, none⟩)] x fun e w' => e = .returned (.int .i64 ((tot t.D : Nat) : Int)) ∧ x = w' from by have h9 := rused_any (h1.below hx); exact h9))
 have H1 := Qh (Qa h1 b1)
 clear h1 b1 CD c0 c1
 go_wp2_with fail
 refine (NM.out _).mono ?_
 rintro e1 w2 ⟨rfl, rfl⟩
 go_wp2_with fail
 refine AT.out.mono ?_
 rintro e1 w2 ⟨rfl, rfl⟩
 go_upto_region 6 with fail
 refine wp_region_held_drew (S := fun x => Below w1.heap.size w1 x) (by kernel_rfl) (Below.drew Qb) (fun hHeld => ?_)
 refine qi 0 (by assumption) ?_
 iterate 18 (refine qk rfl (by kernel_rfl) (fun _ _ _ h => h) (by intro w hSw; (try dsimp only at hSw); go_simp; all_goals with_reducible rfl) (by (try simp only [Act.put, lz]); rfl) ?_)
 refine qo ?_
 refine take_first (i := 18) rfl (by kernel_rfl) (by kernel_rfl) (by kernel_rfl) (fun _ _ _ h => h) (GivesIf.call (by rfl) (fun w => ?_) (fun w hS => USf.out w hS)) (by assumption) ?_
 · go_simp
   all_goals with_reducible rfl
 try simp only [Act.put, lz]
 refine qi 19 (by assumption) ?_
 iterate 3 (refine qk rfl (by kernel_rfl) (fun _ _ _ h => h) (by intro w hSw; (try dsimp only at hSw); go_simp; all_goals with_reducible rfl) (by (try simp only [Act.put, lz]); rfl) ?_)
 refine qo ?_
 refine wpAnyH_done (by kernel_rfl) ?_ _
 clear hHeld
 have hs1 := (HH.out.2.2.2.but H1.out.2 hfar)
 have hx1 : Below w1.heap.size w1 (w1.drew.alloc (.cells #[] 5)) := (Below.drew Qb).alloc Qn _
 have hown : OwnB (w1.drew.alloc (.cells #[] 5)) w1.heap.size 5 (.slice (some ⟨w1.heap.size, 0, none⟩) 0 0) [] := OwnB.lit (w := w1.drew) _ [] Qn (by decide)
 have H4 := Qh (Qa hown (Qa (hs1.below hx1 Qn) hx1))
 clear hs1 hx1 hown c0f c1f USf
 go_wp2_with (first
  | (at_builtin; go_loud (refine wpList_append_sl rfl (.tmp 43) (.tmp 44) 38 rfl w1.heap.size _ Tryz.underlying38 info_u8 (.slice (some ⟨w1.heap.size, 0, none⟩) 0 0) [] rfl H4.out.1 _ ba bn bc b rfl H4.out.2.1 (by simp; omega) (by simp) ?_); intro v5 w5 ho5 hg5 hat5; rw [List.nil_append] at ho5; have hB5 : Below w1.heap.size w1 w5 := H4.out.2.2.grown hg5 (by simp) (fun k hk => by simp [Value.ownBlock] at hk; omega); obtain ⟨a5, c5, hv5, hs5, hb5⟩ := ho5.sl_base HH.out.2.2.2.byte; subst hv5; have H5 := Qh (Qa hs5 (Qa hb5 hB5)); clear ho5 hB5 hg5 hat5 hs5 hb5)
  | fail)
 have hg5 := H1.out.1.grow H5.out.2.2
 have hrl := H1.out.1.lt rp H1.out.1.rpO
 have PU := rdput_any hg5 ⟨s.data.toList, a5, c5, b, 0⟩ (by have := HN.out.1; have := HN.out.2.1; omega) HH.out.2.2.1 HH.out.2.1 ⟨H5.out.1, fun hp k o e => ⟨.inr ⟨H5.out.2.1 k o e, by
  obtain ⟨b', o', e2, hlt, _⟩ := H5.out.1.at_ hp
  have e3 : a5 = some ⟨k, o, none⟩ := e
  rw [e3] at e2
  injection e2 with e2
  injection e2 with e2
  omega⟩, by have := H5.out.2.1 k o e; omega⟩⟩
 have hstr : (⟨s.data.toList.toArray⟩ : ByteArray) = s := by cases s; simp
 rw [hstr] at PU
 have PU2 : Calls Tryz.prog 120 #[.pointer (some ⟨rp, 0, none⟩), .agg #[.string s, .slice a5 bn c5, .int .i64 0]] w5 fun e w' => e = .returned (.tuple #[]) ∧ RMv w5 rp (fun k => O k ∨ (w1.heap.size ≤ k ∧ k < w5.heap.size)) ⟨t.D.put (.string s.data.toList) (.held ⟨b, 0⟩), t.burnt.room, t.burnt.fuse, t.burnt.fails⟩ w' := by
  rw [← hbl]
  exact PU
 have PU := Qh PU2
 clear PU2
 clear hg5 hstr
 go_wp2_with fail
 with_reducible refine PU.out.mono ?_
 rintro e1 w6 ⟨rfl, hmv⟩
 have HF := Qh (RMv.then H1.out.2 (RMv.widen H5.out.2.2 hmv))
 clear hmv PU
 go_wp2
 go_ret
 exact ⟨rfl, HF.out⟩
end
end
section
open Go.RowKit
open Go.Maps
attribute [local go_sem] Oper.semAt_some
section
variable {w : World} {rp : Nat} {t : St} {O : Nat → Prop} {a : Option Addr} {c : Nat} {es : List REnt}
theorem rwrite_full (h : RdC w rp t O a c es) (s : ByteArray) (hsz : s.size ≤ maxLen) (ba : Option Addr) (bn bc : Nat) (b : List Nat) (hb : Sl w w.heap.size ba bn bc b) (hbn : bn ≤ 140737488351232)
 (hf : ¬ t.fuse = 0) (hnm1 : nmOk s.data.toList = true) (hfit : fitsB t.D t.room s.data.toList b.length = false) :
 Calls Tryz.prog 66 #[.pointer (some ⟨rp, 0, none⟩), .string s, .slice ba bn bc] w fun e w' => e = .returned (.int .i64 (t.write s.data.toList b).1) ∧ RMv w rp O (t.write s.data.toList b).2 w' := by
 have CD := Qh (rcall_do h hf)
 have NM := Qh (rname_any s hsz)
 have hcap := h.len_
 have hbl := hb.length
 have hnm : ¬ nmOk s.data.toList = false := by rw [hnm1]; decide
 rw [hnm1] at NM
 have hSE : size t.D = es.length := by rw [h.D_, rD_size]
 have hT1 := h.good.tot_
 have hT2 := h.good.room_
 have e : t.write s.data.toList b = (5, t.burnt) := by unfold St.write; rw [if_neg hf, if_neg hnm, if_pos hfit]
 rw [e]
 clear e
 obtain ⟨n, hn⟩ : ∃ n, n = es.length := ⟨_, rfl⟩
 have HN := Qh hn
 by_cases hi : ridx es s.data.toList < es.length
 · have hr : t.room < tot t.D + bn := by
    obtain ⟨e0, g, _, hf0, _⟩ := h.here hi
    unfold fitsB at hfit
    rw [hf0, hbl] at hfit
    simp at hfit
    omega
   have wr := room_wrap hT1 hT2
   obtain ⟨LF, hLF⟩ : ∃ LF, LF = t.room - tot t.D := ⟨_, rfl⟩
   rw [← hLF] at wr
   have hlt2 : decide ((LF : Int) < (bn : Int)) = true := by simp; omega
   have hlt3 : (LF : Int) < (bn : Int) := by omega
   clear h hb hfit hr hT1 hT2 hn hLF hbl hSE
   go_enter Tryz.func66, Tryz.ntmps66
   go_wp2_with fail
   refine CD.out.mono ?_
   rintro e1 w1 ⟨rfl, h1, b1⟩
   have AT := rat_any h1 s
   unfold ratI at AT
   rw [if_pos hi] at AT
   have AT := Qh AT
   have c0 : w1.cell? ⟨rp, 0, none⟩ = some (.int .i64 (t.room : Int)) := h1.cell.1
   have c1 := h1.cell.2.1
   rw [← HN.out] at c1
   have c0f := far_cellR c0
   have c1f := far_cellR c1
   have USf := Qh (fun (x : World) (hx : Below w1.heap.size w1 x) => (show Calls Tryz.prog 121 #[.pointer (some ⟨rp, 0, none⟩)] x fun e w' => e = .returned (.int .i64 ((tot t.D : Nat) : Int)) ∧ x = w' from by have h9 := rused_any (h1.below hx); exact h9))
   have HR := Qh (RMv.then (b1.drew) (rowner ⟨a, c, es, h1.below (Below.drew Qb)⟩))
   generalize ridx es s.data.toList = i at *
   have i0 : decide ((i : Int) < 0) = false := by simp <;> omega
   have i1 : ¬ ((i : Int) < 0) := by omega
   clear h1 b1 CD c0 c1
   go_wp2_with fail
   refine (NM.out _).mono ?_
   rintro e1 w2 ⟨rfl, rfl⟩
   go_wp2_with fail
   refine AT.out.mono ?_
   rintro e1 w2 ⟨rfl, rfl⟩
   go_upto_region 6 with fail
   refine wp_region_held_drew (S := fun x => Below w1.heap.size w1 x) (by kernel_rfl) (Below.drew Qb) (fun hHeld => ?_)
   refine qi 0 (by assumption) ?_
   iterate 3 (refine qk rfl (by kernel_rfl) (fun _ _ _ h => h) (by intro w hSw; (try dsimp only at hSw); go_simp; all_goals with_reducible rfl) (by (try simp only [Act.put, lz]); rfl) ?_)
   refine qo (qi 3 (by assumption) ?_)
   iterate 6 (refine qu rfl (by kernel_rfl) (fun _ _ _ h => h) (by (try simp only [Act.put, lz]); rfl) ?_)
   refine qo (qi 9 (by assumption) ?_)
   iterate 9 (refine qk rfl (by kernel_rfl) (fun _ _ _ h => h) (by intro w hSw; (try dsimp only at hSw); go_simp; all_goals with_reducible rfl) (by (try simp only [Act.put, lz]); rfl) ?_)
   refine qo ?_
   refine take_first (i := 18) rfl (by kernel_rfl) (by kernel_rfl) (by kernel_rfl) (fun _ _ _ h => h) (GivesIf.call (by rfl) (fun w => ?_) (fun w hS => USf.out w hS)) (by assumption) ?_
   · go_simp
     all_goals with_reducible rfl
   try simp only [Act.put, lz]
   refine qi 19 (by assumption) ?_
   iterate 3 (refine qk rfl (by kernel_rfl) (fun _ _ _ h => h) (by intro w hSw; (try dsimp only at hSw); go_simp; all_goals with_reducible rfl) (by (try simp only [Act.put, lz]); rfl) ?_)
   refine qo ?_
   refine wpAnyH_done (by kernel_rfl) ?_ _
   clear hHeld c0f c1f USf
   go_wp2
   go_ret
   exact ⟨rfl, HR.out⟩
 have hfat := h.gone_ hi
 by_cases h64 : 64 ≤ n
 · have h64b : decide ((64 : Int) ≤ (n : Int)) = true := by simp; omega
   clear h hb hfit hT1 hT2 hn hbl hSE hfat h64
   go_enter Tryz.func66, Tryz.ntmps66
   go_wp2_with fail
   refine CD.out.mono ?_
   rintro e1 w1 ⟨rfl, h1, b1⟩
   have AT := rat_any h1 s
   unfold ratI at AT
   rw [if_neg hi] at AT
   have AT := Qh AT
   have c0 : w1.cell? ⟨rp, 0, none⟩ = some (.int .i64 (t.room : Int)) := h1.cell.1
   have c1 := h1.cell.2.1
   rw [← HN.out] at c1
   have c0f := far_cellR c0
   have c1f := far_cellR c1
   have USf := Qh (fun (x : World) (hx : Below w1.heap.size w1 x) => (show Calls Tryz.prog 121 #[.pointer (some ⟨rp, 0, none⟩)] x fun e w' => e = .returned (.int .i64 ((tot t.D : Nat) : Int)) ∧ x = w' from by have h9 := rused_any (h1.below hx); exact h9))
   have HR := Qh (RMv.then (b1.drew) (rowner ⟨a, c, es, h1.below (Below.drew Qb)⟩))
   clear h1 b1 CD c0 c1
   go_wp2_with fail
   refine (NM.out _).mono ?_
   rintro e1 w2 ⟨rfl, rfl⟩
   go_wp2_with fail
   refine AT.out.mono ?_
   rintro e1 w2 ⟨rfl, rfl⟩
   go_upto_region 6 with fail
   refine wp_region_held_drew (S := fun x => Below w1.heap.size w1 x) (by kernel_rfl) (Below.drew Qb) (fun hHeld => ?_)
   refine qi 0 (by assumption) ?_
   iterate 11 (refine qk rfl (by kernel_rfl) (fun _ _ _ h => h) (by intro w hSw; (try dsimp only at hSw); go_simp; all_goals with_reducible rfl) (by (try simp only [Act.put, lz]); rfl) ?_)
   refine qo (qi 11 (by assumption) ?_)
   iterate 10 (refine qu rfl (by kernel_rfl) (fun _ _ _ h => h) (by (try simp only [Act.put, lz]); rfl) ?_)
   refine qo (qi 21 (by assumption) ?_)
   refine qk rfl (by kernel_rfl) (fun _ _ _ h => h) (by intro w hSw; (try dsimp only at hSw); go_simp; all_goals with_reducible rfl) (by (try simp only [Act.put, lz]); rfl) ?_
   refine qo ?_
   refine wpAnyH_done (by kernel_rfl) ?_ _
   clear hHeld c0f c1f USf
   go_wp2
   go_ret
   exact ⟨rfl, HR.out⟩
 have hr : t.room < tot t.D + bn := by
  unfold fitsB at hfit
  rw [hfat, hSE, hbl, ← hn] at hfit
  have h9 : n < 64 := by omega
  simp [h9] at hfit
  omega
 have h64b : decide ((64 : Int) ≤ (n : Int)) = false := by simp; omega
 have wr := room_wrap hT1 hT2
 obtain ⟨LF, hLF⟩ : ∃ LF, LF = t.room - tot t.D := ⟨_, rfl⟩
 rw [← hLF] at wr
 have hlt2 : decide ((LF : Int) < (bn : Int)) = true := by simp; omega
 have hlt3 : (LF : Int) < (bn : Int) := by omega
 clear h hb hfit hr hT1 hT2 hn hLF hbl hSE hfat h64
 go_enter Tryz.func66, Tryz.ntmps66
 go_wp2_with fail
 refine CD.out.mono ?_
 rintro e1 w1 ⟨rfl, h1, b1⟩
 have AT := rat_any h1 s
 unfold ratI at AT
 rw [if_neg hi] at AT
 have AT := Qh AT
 have c0 : w1.cell? ⟨rp, 0, none⟩ = some (.int .i64 (t.room : Int)) := h1.cell.1
 have c1 := h1.cell.2.1
 rw [← HN.out] at c1
 have c0f := far_cellR c0
 have c1f := far_cellR c1
 have USf := Qh (fun (x : World) (hx : Below w1.heap.size w1 x) => (show Calls Tryz.prog 121 #[.pointer (some ⟨rp, 0, none⟩)] x fun e w' => e = .returned (.int .i64 ((tot t.D : Nat) : Int)) ∧ x = w' from by have h9 := rused_any (h1.below hx); exact h9))
 have HR := Qh (RMv.then (b1.drew) (rowner ⟨a, c, es, h1.below (Below.drew Qb)⟩))
 clear h1 b1 CD c0 c1
 go_wp2_with fail
 refine (NM.out _).mono ?_
 rintro e1 w2 ⟨rfl, rfl⟩
 go_wp2_with fail
 refine AT.out.mono ?_
 rintro e1 w2 ⟨rfl, rfl⟩
 go_upto_region 6 with fail
 refine wp_region_held_drew (S := fun x => Below w1.heap.size w1 x) (by kernel_rfl) (Below.drew Qb) (fun hHeld => ?_)
 refine qi 0 (by assumption) ?_
 iterate 18 (refine qk rfl (by kernel_rfl) (fun _ _ _ h => h) (by intro w hSw; (try dsimp only at hSw); go_simp; all_goals with_reducible rfl) (by (try simp only [Act.put, lz]); rfl) ?_)
 refine qo ?_
 refine take_first (i := 18) rfl (by kernel_rfl) (by kernel_rfl) (by kernel_rfl) (fun _ _ _ h => h) (GivesIf.call (by rfl) (fun w => ?_) (fun w hS => USf.out w hS)) (by assumption) ?_
 · go_simp
   all_goals with_reducible rfl
 try simp only [Act.put, lz]
 refine qi 19 (by assumption) ?_
 iterate 3 (refine qk rfl (by kernel_rfl) (fun _ _ _ h => h) (by intro w hSw; (try dsimp only at hSw); go_simp; all_goals with_reducible rfl) (by (try simp only [Act.put, lz]); rfl) ?_)
 refine qo ?_
 refine wpAnyH_done (by kernel_rfl) ?_ _
 clear hHeld c0f c1f USf
 go_wp2
 go_ret
 exact ⟨rfl, HR.out⟩
end
end
section
open Go.RowKit
open Go.Maps
attribute [local go_sem] Oper.semAt_some
section
variable {w : World} {rp : Nat} {t : St} {O : Nat → Prop} {a : Option Addr} {c : Nat} {es : List REnt}
theorem rwrite_old (h : RdC w rp t O a c es) (s : ByteArray) (hsz : s.size ≤ maxLen) (ba : Option Addr) (bn bc : Nat) (b : List Nat) (hb : Sl w w.heap.size ba bn bc b) (hbn : bn ≤ 140737488351232) (hfar : 0 < bn → ∀ k o, ba = some ⟨k, o, none⟩ → ¬ O k)
 (hf : ¬ t.fuse = 0) (hnm1 : nmOk s.data.toList = true) (hi : ridx es s.data.toList < es.length) (hfit1 : fitsB t.D t.room s.data.toList b.length = true) :
 Calls Tryz.prog 66 #[.pointer (some ⟨rp, 0, none⟩), .string s, .slice ba bn bc] w fun e w' => e = .returned (.int .i64 (t.write s.data.toList b).1) ∧ RMv w rp O (t.write s.data.toList b).2 w' := by
 have CD := Qh (rcall_do h hf)
 have NM := Qh (rname_any s hsz)
 have hcap := h.len_
 have hbl := hb.length
 have hnm : ¬ nmOk s.data.toList = false := by rw [hnm1]; decide
 rw [hnm1] at NM
 have hT1 := h.good.tot_
 have hT2 := h.good.room_
 obtain ⟨e0, he0, hfat⟩ : ∃ e0, es[ridx es s.data.toList]? = some e0 ∧ fat t.D s.data.toList = some e0.fl := by
  obtain ⟨e0, g, h0, hf0, _⟩ := h.here hi
  exact ⟨e0, h0, hf0⟩
 have hname := ridx_name es _ e0 he0
 have e : t.write s.data.toList b = (0, { t.burnt with D := t.D.put (.string s.data.toList) (.held ⟨e0.bs ++ b, e0.l⟩) }) := by
  unfold St.write
  rw [if_neg hf, if_neg hnm, if_neg (by rw [hfit1]; decide), hfat]
  rfl
 rw [e]
 have hr : tot t.D + bn ≤ t.room := by
  unfold fitsB at hfit1
  rw [hfat, hbl] at hfit1
  simpa using hfit1
 have hga := h.good.at_ hfat
 have hG : Good (t.D.put (.string s.data.toList) (.held ⟨e0.bs ++ b, e0.l⟩)) t.room := h.good.put hnm1 (by have := hga.2.1; simp at this ⊢; omega) (fun x hx => by
  rcases List.mem_append.1 hx with hx | hx
  · exact hga.2.2.1 x hx
  exact hb.byte x hx) (.inl (by rw [hfat]; rfl)) (by rw [hfat]; simp; omega)
 have hbn2 : bn ≤ 1048576 := by omega
 have hm0 : e0.bs.length ≤ 1048576 := by have := hga.2.2.2; simp at this; omega
 obtain ⟨g, hg⟩ : ∃ g, a = some ⟨g, 0, none⟩ := by obtain ⟨g, hg, _⟩ := h.at_ (by omega); exact ⟨g, hg⟩
 subst hg
 have hgO := h.ownO g rfl
 obtain ⟨LF, hLF⟩ : ∃ LF, LF = t.room - tot t.D := ⟨_, rfl⟩
 have wr := room_wrap hT1 hT2
 rw [← hLF] at wr
 have hlt2 : decide ((LF : Int) < (bn : Int)) = false := by simp; omega
 have hlt3 : ¬ (LF : Int) < (bn : Int) := by omega
 have hD := rD_set s.data.toList h.once hi
 have HH := Qh (Qa hG (Qa hb (Qa hD (Qa h.D_ (Qa he0 (Qa hname hga.2.2.1))))))
 obtain ⟨n, hn⟩ : ∃ n, n = es.length := ⟨_, rfl⟩
 have HN := Qh hn
 clear h e hG hb hD hga hr hfit1 hLF hfat hT1 hT2 hname
 go_enter Tryz.func66, Tryz.ntmps66
 go_wp2_with fail
 refine CD.out.mono ?_
 rintro e1 w1 ⟨rfl, h1, b1⟩
 have AT := rat_any h1 s
 unfold ratI at AT
 rw [if_pos hi] at AT
 have AT := Qh AT
 have c0 : w1.cell? ⟨rp, 0, none⟩ = some (.int .i64 (t.room : Int)) := h1.cell.1
 have c1 := h1.cell.2.1
 obtain ⟨g', hg', _, _, hgl, _, _, hcs⟩ := h1.at_ (by omega)
 have hgg : g' = g := by injection hg' with hg'; injection hg' with hg'; exact hg'.symm
 subst hgg
 have q1 := far_cellR (hcs _ e0 he0).2.1
 have zq : w1.frozen? ⟨g', ridx es s.data.toList * 3 + 1, none⟩ = false := by
  rcases h1.own.2 with ⟨h2, _⟩ | ⟨g2, cap, cur, e, _, h3, _⟩
  · cases h2
  injection e with e; injection e with e; injection e with e; subst e; exact frozen_of_row _ _ _ _ _ h3
 have zf := fun (x : World) (hx : Below w1.heap.size w1 x) => (World.frozen?_of_block (w := w1) (a := ⟨g', ridx es s.data.toList * 3 + 1, none⟩) (hx.block g' hgl)).trans zq
 have hsE := (h1.bytes e0 (List.mem_of_getElem? he0)).1
 have hsB := HH.out.2.1.but b1 hfar
 have PE := Qh (fun (w3 : World) (a3 : Option Addr) (c3 : Nat) (hx : Below w1.heap.size w1 w3) (hs3 : Sl w3 w3.heap.size a3 (e0.bs ++ b).length c3 (e0.bs ++ b)) (hb3 : ∀ k o, a3 = some ⟨k, o, none⟩ → w1.heap.size ≤ k) =>
  RMv.then b1 (h1.edit hx he0 1 (.slice a3 (e0.bs ++ b).length c3) { e0 with a := a3, c := c3, bs := e0.bs ++ b } (by omega) (rcells_set1 es _ e0 a3 c3 (e0.bs ++ b) he0) (D' := t.D.put (.string s.data.toList) (.held ⟨e0.bs ++ b, e0.l⟩)) (by rw [HH.out.2.2.1 { e0 with a := a3, c := c3, bs := e0.bs ++ b } HH.out.2.2.2.2.2.1, HH.out.2.2.2.1]) HH.out.1 (.inr ⟨hs3, fun _ => hb3⟩)))
 rw [← hn] at c1
 have c0f := far_cellR c0
 have c1f := far_cellR c1
 have USf := Qh (fun (x : World) (hx : Below w1.heap.size w1 x) => (show Calls Tryz.prog 121 #[.pointer (some ⟨rp, 0, none⟩)] x fun e w' => e = .returned (.int .i64 ((tot t.D : Nat) : Int)) ∧ x = w' from by have h9 := rused_any (h1.below hx); exact h9))
 have HS := Qh (Qa hsE hsB)
 generalize ridx es s.data.toList = i at *
 rw [← hn] at hi
 have i0 : decide ((i : Int) < 0) = false := by simp <;> omega
 have i1 : ¬ ((i : Int) < 0) := by omega
 obtain ⟨m0, hm⟩ : ∃ m0, m0 = e0.bs.length := ⟨_, rfl⟩
 rw [← hm] at q1 hm0
 have Hm := Qh hm
 have Hbl := Qh hbl
 clear h1 b1 CD c0 c1 hcs hg' hsE hsB hn zq hm hbl
 go_wp2_with fail
 refine (NM.out _).mono ?_
 rintro e1 w2 ⟨rfl, rfl⟩
 go_wp2_with fail
 refine AT.out.mono ?_
 rintro e1 w2 ⟨rfl, rfl⟩
 go_upto_region 6 with fail
 refine wp_region_held_drew (S := fun x => Below w1.heap.size w1 x) (by kernel_rfl) (Below.drew Qb) (fun hHeld => ?_)
 refine qi 0 (by assumption) ?_
 iterate 3 (refine qk rfl (by kernel_rfl) (fun _ _ _ h => h) (by intro w hSw; (try dsimp only at hSw); go_simp; all_goals with_reducible rfl) (by (try simp only [Act.put, lz]); rfl) ?_)
 refine qo (qi 3 (by assumption) ?_)
 iterate 6 (refine qu rfl (by kernel_rfl) (fun _ _ _ h => h) (by (try simp only [Act.put, lz]); rfl) ?_)
 refine qo (qi 9 (by assumption) ?_)
 iterate 9 (refine qk rfl (by kernel_rfl) (fun _ _ _ h => h) (by intro w hSw; (try dsimp only at hSw); go_simp; all_goals with_reducible rfl) (by (try simp only [Act.put, lz]); rfl) ?_)
 refine qo ?_
 refine take_first (i := 18) rfl (by kernel_rfl) (by kernel_rfl) (by kernel_rfl) (fun _ _ _ h => h) (GivesIf.call (by rfl) (fun w => ?_) (fun w hS => USf.out w hS)) (by assumption) ?_
 · go_simp
   all_goals with_reducible rfl
 try simp only [Act.put, lz]
 refine qi 19 (by assumption) ?_
 iterate 3 (refine qk rfl (by kernel_rfl) (fun _ _ _ h => h) (by intro w hSw; (try dsimp only at hSw); go_simp; all_goals with_reducible rfl) (by (try simp only [Act.put, lz]); rfl) ?_)
 refine qo ?_
 refine wpAnyH_done (by kernel_rfl) ?_ _
 clear hHeld
 go_upto_region 11 with fail
 refine region_tail (fun x => Below w1.heap.size w1 x) 19 (by kernel_rfl) (Below.drew (Below.drew Qb)) (fun hHeld => ?_)
 refine takeT (i := 0) (v := ?_) rfl (by kernel_rfl) (by kernel_rfl) (by kernel_rfl) (by kernel_rfl) (fun _ _ _ h => h) (Or.inl ⟨by rfl, ?_⟩) (by assumption) ?_
 rotate_left
 · intro w hSw
   (try dsimp only at hSw)
   go_simp
   all_goals with_reducible rfl
 try simp only [Act.put, lz]
 refine takeT (i := 1) (v := ?_) rfl (by kernel_rfl) (by kernel_rfl) (by kernel_rfl) (by kernel_rfl) (fun _ _ _ h => h) (Or.inl ⟨by rfl, ?_⟩) (by assumption) ?_
 rotate_left
 · intro w hSw
   (try dsimp only at hSw)
   go_simp
   all_goals with_reducible rfl
 try simp only [Act.put, lz]
 refine takeT (i := 2) (v := ?_) rfl (by kernel_rfl) (by kernel_rfl) (by kernel_rfl) (by kernel_rfl) (fun _ _ _ h => h) (Or.inl ⟨by rfl, ?_⟩) (by assumption) ?_
 rotate_left
 · intro w hSw
   (try dsimp only at hSw)
   go_simp
   all_goals with_reducible rfl
 try simp only [Act.put, lz]
 refine takeT (i := 3) (v := ?_) rfl (by kernel_rfl) (by kernel_rfl) (by kernel_rfl) (by kernel_rfl) (fun _ _ _ h => h) (Or.inl ⟨by rfl, ?_⟩) (by assumption) ?_
 rotate_left
 · intro w hSw
   (try dsimp only at hSw)
   go_simp
   all_goals with_reducible rfl
 try simp only [Act.put, lz]
 refine takeT (i := 4) (v := ?_) rfl (by kernel_rfl) (by kernel_rfl) (by kernel_rfl) (by kernel_rfl) (fun _ _ _ h => h) (Or.inl ⟨by rfl, ?_⟩) (by assumption) ?_
 rotate_left
 · intro w hSw
   (try dsimp only at hSw)
   go_simp
   all_goals with_reducible rfl
 try simp only [Act.put, lz]
 refine takeT (i := 6) (v := ?_) rfl (by kernel_rfl) (by kernel_rfl) (by kernel_rfl) (by kernel_rfl) (fun _ _ _ h => h) (Or.inl ⟨by rfl, ?_⟩) (by assumption) ?_
 rotate_left
 · intro w hSw
   (try dsimp only at hSw)
   go_simp
   all_goals with_reducible rfl
 try simp only [Act.put, lz]
 refine takeT (i := 7) (v := ?_) rfl (by kernel_rfl) (by kernel_rfl) (by kernel_rfl) (by kernel_rfl) (fun _ _ _ h => h) (Or.inl ⟨by rfl, ?_⟩) (by assumption) ?_
 rotate_left
 · intro w hSw
   (try dsimp only at hSw)
   go_simp
   all_goals with_reducible rfl
 try simp only [Act.put, lz]
 refine takeT (i := 8) (v := ?_) rfl (by kernel_rfl) (by kernel_rfl) (by kernel_rfl) (by kernel_rfl) (fun _ _ _ h => h) (Or.inl ⟨by rfl, ?_⟩) (by assumption) ?_
 rotate_left
 · intro w hSw
   (try dsimp only at hSw)
   go_simp
   all_goals with_reducible rfl
 try simp only [Act.put, lz]
 refine takeT (i := 9) (v := ?_) rfl (by kernel_rfl) (by kernel_rfl) (by kernel_rfl) (by kernel_rfl) (fun _ _ _ h => h) (Or.inl ⟨by rfl, ?_⟩) (by assumption) ?_
 rotate_left
 · intro w hSw
   (try dsimp only at hSw)
   go_simp
   all_goals with_reducible rfl
 try simp only [Act.put, lz]
 refine takeT (i := 10) (v := ?_) rfl (by kernel_rfl) (by kernel_rfl) (by kernel_rfl) (by kernel_rfl) (fun _ _ _ h => h) (Or.inl ⟨by rfl, ?_⟩) (by assumption) ?_
 rotate_left
 · intro w hSw
   (try dsimp only at hSw)
   go_simp
   all_goals with_reducible rfl
 try simp only [Act.put, lz]
 refine takeT (i := 11) (v := ?_) rfl (by kernel_rfl) (by kernel_rfl) (by kernel_rfl) (by kernel_rfl) (fun _ _ _ h => h) (Or.inl ⟨by rfl, ?_⟩) (by assumption) ?_
 rotate_left
 · intro w hSw
   (try dsimp only at hSw)
   go_simp
   all_goals with_reducible rfl
 try simp only [Act.put, lz]
 refine takeT (i := 12) (v := ?_) rfl (by kernel_rfl) (by kernel_rfl) (by kernel_rfl) (by kernel_rfl) (fun _ _ _ h => h) (Or.inl ⟨by rfl, ?_⟩) (by assumption) ?_
 rotate_left
 · intro w hSw
   (try dsimp only at hSw)
   go_simp
   all_goals with_reducible rfl
 try simp only [Act.put, lz]
 refine takeT (i := 13) (v := ?_) rfl (by kernel_rfl) (by kernel_rfl) (by kernel_rfl) (by kernel_rfl) (fun _ _ _ h => h) (Or.inl ⟨by rfl, ?_⟩) (by assumption) ?_
 rotate_left
 · intro w hSw
   (try dsimp only at hSw)
   go_simp
   all_goals with_reducible rfl
 try simp only [Act.put, lz]
 refine takeT (i := 15) (v := ?_) rfl (by kernel_rfl) (by kernel_rfl) (by kernel_rfl) (by kernel_rfl) (fun _ _ _ h => h) (Or.inl ⟨by rfl, ?_⟩) (by assumption) ?_
 rotate_left
 · intro w hSw
   (try dsimp only at hSw)
   go_simp
   all_goals with_reducible rfl
 try simp only [Act.put, lz]
 refine heldT.ready (rs := [5]) (by kernel_rfl) (by simp) ?_
 refine ReadyT.cons rfl (fun K hK => ?_) ReadyT.nil
 go_simp
 have hA : Below w1.heap.size w1 (w1.drew.drew.alloc (.cells #[] 5)) := hHeld.alloc hHeld.size _
 have hown : OwnB (w1.drew.drew.alloc (.cells #[] 5)) w1.heap.size 5 (.slice (some ⟨w1.heap.size, 0, none⟩) 0 0) [] := OwnB.lit (w := w1.drew.drew) _ [] Qn (by decide)
 have hE := HS.out.1
 rw [← Hm.out] at hE
 refine hK.out _ _ (Or.inl (hA)) ?_
 have hHeld := hA
 clear hK K
 try simp only [Act.put, lz]
 refine heldT.ready (rs := [14]) (by kernel_rfl) (by simp) ?_
 refine ReadyT.cons rfl (fun K hK => ?_) ReadyT.nil
 refine wp_append_sl (.tmp 53) (.tmp 61) 38 rfl w1.heap.size _ Tryz.underlying38 info_u8 (.slice (some ⟨w1.heap.size, 0, none⟩) 0 0) [] rfl hown _ e0.a m0 e0.c e0.bs rfl (hE.below hA Qn) (by simp; omega) hA.size ?_
 intro v2 w2 ho2 hg2 _
 rw [List.nil_append] at ho2
 have hB : Below w1.heap.size w1 w2 := hA.grown hg2 hA.size (fun q hq => (hown.at_base hq).1)
 refine hK.out _ _ (Or.inl (hB)) ?_
 have hHeld := hB
 clear hK K
 try simp only [Act.put, lz]
 refine heldT.ready (rs := [16]) (by kernel_rfl) (by simp) ?_
 refine ReadyT.cons rfl (fun K hK => ?_) ReadyT.nil
 refine wp_append_sl (.tmp 62) (.tmp 63) 38 rfl w1.heap.size _ Tryz.underlying38 info_u8 v2 e0.bs rfl ho2 _ ba bn bc b rfl (HS.out.2.below hB Qn) (by rw [← Hm.out]; omega) hB.size ?_
 intro v3 w3 ho3 hg3 _
 have hC : Below w1.heap.size w1 w3 := hB.grown hg3 hB.size (fun q hq => (ho2.at_base hq).1)
 have hby : ∀ x ∈ e0.bs ++ b, x < 256 := fun x hx => by
  rcases List.mem_append.1 hx with hx | hx
  · exact HH.out.2.2.2.2.2.2 x hx
  exact HH.out.2.1.byte x hx
 obtain ⟨a3, c3, hv3, hs3, hb3⟩ := ho3.sl_base hby
 subst hv3
 have HF := PE.out w3 a3 c3 hC hs3 hb3
 have y1 := q1 w3 hC
 have y2 := zf w3 hC
 refine hK.out _ _ (Or.inl (hC)) ?_
 have hHeld := hC
 clear hK K
 try simp only [Act.put, lz]
 generalize (e0.bs ++ b).length = n9 at HF ⊢
 have HF := Qh HF
 clear ho3 hs3 hb3 ho2
 refine takeT2 18 (i := 17) (v := ?_) rfl (by kernel_rfl) (by kernel_rfl) (by kernel_rfl) (by kernel_rfl) (by kernel_rfl) (fun _ _ _ h => h) (Or.inl ⟨by rfl, ?_⟩) (by assumption) ?_
 rotate_left
 · intro w hSw
   (try dsimp only at hSw)
   go_simp
   all_goals with_reducible rfl
 try simp only [Act.put, lz]
 refine takeT (i := 18) (v := ?_) rfl (by kernel_rfl) (by kernel_rfl) (by kernel_rfl) (by kernel_rfl) (fun _ _ _ h => h) (Or.inl ⟨by rfl, ?_⟩) (by assumption) ?_
 rotate_left
 · intro w hSw
   (try dsimp only at hSw)
   go_simp
   all_goals with_reducible rfl
 try simp only [Act.put, lz]
 refine heldT.ready (rs := [19]) (by kernel_rfl) (by simp) ?_
 refine ReadyT.cons rfl (fun K hK => ?_) ReadyT.nil
 go_simp
 refine hK.out _ _ (Or.inr rfl) ?_
 clear hK K
 try simp only [Act.put, lz]
 refine heldT.done (by kernel_rfl) ?_ _
 go_wp2
 go_ret
 exact ⟨rfl, HF.out⟩
end
end
end
section
section
open Go.RowKit
open Go.Maps
attribute [local go_sem] Oper.semAt_some
section
variable {w : World} {rp : Nat} {t : St} {O : Nat → Prop} {a : Option Addr} {c : Nat} {es : List REnt}
theorem rrename_early (h : RdC w rp t O a c es) (s tn : ByteArray) (hsz : tn.size ≤ maxLen) (hearly : t.fuse = 0 ∨ nmOk tn.data.toList = false ∨ ¬ ridx es s.data.toList < es.length) :
 Calls Tryz.prog 64 #[.pointer (some ⟨rp, 0, none⟩), .string s, .string tn] w fun e w' => e = .returned (.int .i64 (t.rename s.data.toList tn.data.toList).1) ∧ RMv w rp O (t.rename s.data.toList tn.data.toList).2 w' := by
 by_cases hf : t.fuse = 0
 · have e : t.rename s.data.toList tn.data.toList = (42, t) := by unfold St.rename; rw [if_pos hf]
   rw [e]
   have CD := Qh (rcall_dead h hf)
   have HR := Qh (rowner ⟨a, c, es, h⟩)
   clear h
   go_enter Tryz.func64, Tryz.ntmps64
   go_wp2_with fail
   refine CD.out.mono ?_
   rintro e1 w1 ⟨rfl, rfl⟩
   go_wp2
   go_ret
   exact ⟨rfl, HR.out⟩
 have CD := Qh (rcall_do h hf)
 have NM := Qh (rname_any tn hsz)
 have hcap := h.len_
 by_cases hnm : nmOk tn.data.toList = false
 · have e : t.rename s.data.toList tn.data.toList = (1, t.burnt) := by unfold St.rename; rw [if_neg hf, if_pos hnm]
   rw [e]
   rw [hnm] at NM
   clear h e
   go_enter Tryz.func64, Tryz.ntmps64
   go_wp2_with fail
   refine CD.out.mono ?_
   rintro e1 w1 ⟨rfl, h1, b1⟩
   have HR := Qh (RMv.then b1 (rowner ⟨a, c, es, h1⟩))
   clear h1 b1 CD
   go_wp2_with fail
   refine (NM.out _).mono ?_
   rintro e1 w2 ⟨rfl, rfl⟩
   go_wp2
   go_ret
   exact ⟨rfl, HR.out⟩
 have hi := (hearly.resolve_left hf).resolve_left hnm
 have e : t.rename s.data.toList tn.data.toList = (3, t.burnt) := by unfold St.rename; rw [if_neg hf, if_neg hnm, h.gone_ hi]
 have hnm1 : nmOk tn.data.toList = true := by simpa using hnm
 rw [e]
 rw [hnm1] at NM
 clear h e
 go_enter Tryz.func64, Tryz.ntmps64
 go_wp2_with fail
 refine CD.out.mono ?_
 rintro e1 w1 ⟨rfl, h1, b1⟩
 have AT := rat_any h1 s
 unfold ratI at AT
 rw [if_neg hi] at AT
 have AT := Qh AT
 have HR := Qh (RMv.then b1 (rowner ⟨a, c, es, h1⟩))
 clear h1 b1 CD
 go_wp2_with fail
 refine (NM.out _).mono ?_
 rintro e1 w2 ⟨rfl, rfl⟩
 go_wp2_with fail
 refine AT.out.mono ?_
 rintro e1 w2 ⟨rfl, rfl⟩
 go_wp2
 go_ret
 exact ⟨rfl, HR.out⟩
end
end
section
open Go.RowKit
open Go.Maps
attribute [local go_sem] Oper.semAt_some
theorem ridx_none : ∀ (l : List REnt) (s : List UInt8), ¬ ridx l s < l.length → ∀ e ∈ l, e.s ≠ s := by
 intro l s hn e he hs
 obtain ⟨j, hj⟩ := List.getElem?_of_mem he
 have hskip : ∀ (l : List REnt) (j : Nat) (e : REnt), l[j]? = some e → e.s = s → ridx l s ≤ j := by
  intro l
  induction l with
  | nil => intro j e hj; simp at hj
  | cons y l ih =>
   intro j e hj hs
   unfold ridx
   split
   · exact Nat.zero_le _
   rename_i hy
   cases j with
   | zero =>
    have : y = e := by simpa using hj
    subst this
    exact absurd hs hy
   | succ j =>
    have := ih j e (by simpa using hj) hs
    omega
 have h1 := hskip l j e hj hs
 have h2 := (List.getElem?_eq_some_iff.1 hj).1
 omega
theorem ridx_gone (l : List REnt) (s : List UInt8) (h : fat (rD l) s = none) : ¬ ridx l s < l.length := by
 intro hi
 rw [ridx_fat, List.getElem?_eq_getElem hi] at h
 cases h
section
variable {w : World} {rp : Nat} {t : St} {O : Nat → Prop} {a : Option Addr} {c : Nat} {es : List REnt}
theorem RdC.drop_ (h : RdC w rp t O a c es) {w1 : World} (hb : Below w.heap.size w w1) {i : Nat} {v : Value} (ho : OwnFl w1 w.heap.size v (es.take i ++ es.drop (i + 1))) {s : List UInt8} (hs : ridx es s = i) (hi : i < es.length) :
 ∃ a' c', v = .slice a' (es.length - 1) c' ∧ RdC (w1.setCell ⟨rp, 1, none⟩ (.slice a' (es.length - 1) c')) rp ⟨t.D.del (.string s), t.room, t.fuse, t.fails⟩ (fun k => O k ∨ (w.heap.size ≤ k ∧ k < w1.heap.size)) a' c' (es.take i ++ es.drop (i + 1)) ∧ But O w (w1.setCell ⟨rp, 1, none⟩ (.slice a' (es.length - 1) c')) ∧
  (∀ k, k < w.heap.size → k ≠ rp → (w1.setCell ⟨rp, 1, none⟩ (.slice a' (es.length - 1) c')).heap[k]? = w.heap[k]?) ∧ w.heap.size ≤ (w1.setCell ⟨rp, 1, none⟩ (.slice a' (es.length - 1) c')).heap.size := by
 obtain ⟨a', c', rfl⟩ := ho.form
 have hl : (es.take i ++ es.drop (i + 1)).length = es.length - 1 := by simp; omega
 have hd := rD_del es s h.once (by rw [hs]; exact hi)
 rw [hs] at hd
 obtain ⟨h1, h2⟩ := h.relayC (D' := t.D.del (.string s)) hb ho (by rw [h.D_, hd]) (h.good.del _) (fun e he => .inl (by
  rcases List.mem_append.1 he with he | he
  · exact List.mem_of_mem_take he
  exact List.mem_of_mem_drop he))
 rw [hl] at h1 h2
 refine ⟨a', c', by rw [hl], h1, h2, fun k hk hn => (Below.heap_setCell w1 ⟨rp, 1, none⟩ _ k hn).trans (hb.block k hk), by have := hb.size; simpa [World.setCell] using this⟩
theorem rn_end {w1 : World} {t1 : St} (h1 : RdC w1 rp t1 O a c es) {e0 : REnt} (he0 : e0 ∈ es) {x : World} {O2 : Nat → Prop} {a2 : Option Addr} {c2 : Nat} {es2 : List REnt} {D2 : FS} (tn : ByteArray)
 (hx : RdC x rp ⟨D2, t1.room, t1.fuse, t1.fails⟩ O2 a2 c2 es2) (hb : But O w1 x) (hO2 : ∀ k, O2 k → O k ∨ w1.heap.size + 1 ≤ k) (hO : ∀ k, O k → O2 k)
 (keep : ∀ k, k < w1.heap.size + 1 → k ≠ rp → x.heap[k]? = (w1.alloc (.cells #[.string ⟨e0.s.toArray⟩, .slice e0.a e0.bs.length e0.c, .int .i64 (e0.l : Int)] 124)).heap[k]?)
 (hlen : es2.length ≤ 63) (hne : ∀ e ∈ es2, e.s ≠ tn.data.toList) (hG : Good (D2.put (.string tn.data.toList) (.held e0.fl)) t1.room) :
 x.cell? ⟨w1.heap.size, 0, none⟩ = some (.string ⟨e0.s.toArray⟩) ∧ x.frozen? ⟨w1.heap.size, 0, none⟩ = false ∧
 (x.setCell ⟨w1.heap.size, 0, none⟩ (.string tn)).cell? ⟨w1.heap.size, 0, none⟩ = some (.string tn) ∧
 (x.setCell ⟨w1.heap.size, 0, none⟩ (.string tn)).cell? ⟨w1.heap.size, 1, none⟩ = some (.slice e0.a e0.bs.length e0.c) ∧
 (x.setCell ⟨w1.heap.size, 0, none⟩ (.string tn)).cell? ⟨w1.heap.size, 2, none⟩ = some (.int .i64 (e0.l : Int)) ∧
 Calls Tryz.prog 120 #[.pointer (some ⟨rp, 0, none⟩), .agg #[.string tn, .slice e0.a e0.bs.length e0.c, .int .i64 (e0.l : Int)]] (x.setCell ⟨w1.heap.size, 0, none⟩ (.string tn)) fun e w' => e = .returned (.tuple #[]) ∧ RMv w1 rp O ⟨D2.put (.string tn.data.toList) (.held e0.fl), t1.room, t1.fuse, t1.fails⟩ w' := by
 have hrl := h1.lt rp h1.rpO
 have hA := (keep w1.heap.size (by omega) (by omega)).trans (heap_alloc_new w1 _)
 have hyA := heap_setCell_same x w1.heap.size 0 _ _ (.string tn) hA
 have hoth : ∀ k, k ≠ w1.heap.size → (x.setCell ⟨w1.heap.size, 0, none⟩ (.string tn)).heap[k]? = x.heap[k]? := fun k hk => Below.heap_setCell x ⟨w1.heap.size, 0, none⟩ _ k hk
 have hz : (x.setCell ⟨w1.heap.size, 0, none⟩ (.string tn)).heap.size = x.heap.size := by simp [World.setCell]
 have hnA : ∀ k, O2 k → k ≠ w1.heap.size := fun k hk => by
  rcases hO2 k hk with h2 | h2
  · have := h1.lt k h2; omega
  omega
 have hy : RdC (x.setCell ⟨w1.heap.size, 0, none⟩ (.string tn)) rp ⟨D2, t1.room, t1.fuse, t1.fails⟩ O2 a2 c2 es2 := hx.same (fun k hk => hoth k (hnA k hk)) (by omega)
 have hby := h1.bytes e0 he0
 have hsx := hb.size
 have PU := rdput_any hy ⟨tn.data.toList, e0.a, e0.c, e0.bs, e0.l⟩ hlen hne hG ⟨hby.1.same_ (by omega) (fun hp b o e => by
  have h2 := hby.2 hp b o e
  have h3 := h1.lt b h2.1
  exact ((hoth b (by omega)).trans (keep b (by omega) h2.2.1)).trans (Below.heap_alloc _ _ _ h3)), fun hp b o e => ⟨hO b (hby.2 hp b o e).1, (hby.2 hp b o e).2.1⟩⟩
 have hstr : (⟨tn.data.toList.toArray⟩ : ByteArray) = tn := by cases tn; simp
 rw [hstr] at PU
 refine ⟨(cell_of_row _ _ 0 _ _ _ hA).trans rfl, frozen_of_row _ _ 0 _ _ hA, (cell_of_row _ _ 0 _ _ _ hyA).trans rfl, (cell_of_row _ _ 1 _ _ _ hyA).trans rfl, (cell_of_row _ _ 2 _ _ _ hyA).trans rfl, PU.mono ?_⟩
 rintro e w' ⟨he, O', k1, k2, k3⟩
 exact ⟨he, O', k1, (hb.setCell (p := ⟨w1.heap.size, 0, none⟩) (.inr Qn) (.string tn)).trans k2 (fun i hi => (hO2 i hi).imp id (fun h => by omega)), fun k hk => by
  rcases k3 k hk with h2 | h2
  · exact (hO2 k h2).imp id (fun h => by omega)
  exact .inr (by omega)⟩
end
end
section
open Go.RowKit
open Go.Maps
attribute [local go_sem] Oper.semAt_some
section
variable {w : World} {rp : Nat} {t : St} {O : Nat → Prop} {a : Option Addr} {c : Nat} {es : List REnt}
theorem rrename_at (h : RdC w rp t O a c es) (s tn : ByteArray) (hsz : tn.size ≤ maxLen) (hf : ¬ t.fuse = 0) (hnm1 : nmOk tn.data.toList = true) (hi : ridx es s.data.toList < es.length) :
 Calls Tryz.prog 64 #[.pointer (some ⟨rp, 0, none⟩), .string s, .string tn] w fun e w' => e = .returned (.int .i64 (t.rename s.data.toList tn.data.toList).1) ∧ RMv w rp O (t.rename s.data.toList tn.data.toList).2 w' := by
 have CD := Qh (rcall_do h hf)
 have NM := Qh (rname_any tn hsz)
 have hcap := h.len_
 rw [hnm1] at NM
 obtain ⟨e0, he0, hfat⟩ : ∃ e0, es[ridx es s.data.toList]? = some e0 ∧ fat t.D s.data.toList = some e0.fl := by
  obtain ⟨e0, g, h0, hf0, _⟩ := h.here hi
  exact ⟨e0, h0, hf0⟩
 obtain ⟨g, hg⟩ : ∃ g, a = some ⟨g, 0, none⟩ := by obtain ⟨g, hg, _⟩ := h.at_ (by omega); exact ⟨g, hg⟩
 subst hg
 have e : t.rename s.data.toList tn.data.toList = (0, { t.burnt with D := (t.D.del (.string s.data.toList)).put (.string tn.data.toList) (.held e0.fl) }) := by
  unfold St.rename; rw [if_neg hf, if_neg (by rw [hnm1]; decide), hfat]
 rw [e]
 have hG := good_rename h.good hfat hnm1
 clear h e
 obtain ⟨es1, hes1⟩ : ∃ es1, es1 = es.take (ridx es s.data.toList) ++ es.drop (ridx es s.data.toList + 1) := ⟨_, rfl⟩
 have hl1 : es1.length = es.length - 1 := by rw [hes1]; simp; omega
 go_enter Tryz.func64, Tryz.ntmps64
 go_wp2_with fail
 refine CD.out.mono ?_
 rintro e1 w1 ⟨rfl, h1, b1⟩
 have AT := rat_any h1 s
 unfold ratI at AT
 rw [if_pos hi] at AT
 have AT := Qh AT
 have c1 := h1.cell.2.1
 obtain ⟨g', hg', _, _, hgl, _, _, hcs⟩ := h1.at_ (by omega)
 have hgg : g' = g := by injection hg' with hg'; injection hg' with hg'; exact hg'.symm
 subst hgg
 obtain ⟨q0, q1, q2⟩ := hcs _ e0 he0
 have B1 := Qh b1
 have hrl1 := h1.lt rp h1.rpO
 have hA0 : Below w1.heap.size w1 (w1.alloc (.cells #[.string ⟨e0.s.toArray⟩, .slice e0.a e0.bs.length e0.c, .int .i64 (e0.l : Int)] 124)) := Qb.alloc Qn _
 have hAR := h1.below hA0
 have c1A := far_cellR c1 _ hA0
 have z1A := hAR.cell.2.2.2.2 1
 have zA : (w1.alloc (.cells #[.string ⟨e0.s.toArray⟩, .slice e0.a e0.bs.length e0.c, .int .i64 (e0.l : Int)] 124)).heap.size = w1.heap.size + 1 := by simp
 have hrA : rp < (w1.alloc (.cells #[.string ⟨e0.s.toArray⟩, .slice e0.a e0.bs.length e0.c, .int .i64 (e0.l : Int)] 124)).heap.size := by rw [zA]; omega
 have WT := Qh (rwithout_any es _ es.length c (ridx es s.data.toList) _ hAR.rfs hi hcap)
 have EN := Qh (fun (x : World) (O2 : Nat → Prop) (a2 : Option Addr) (c2 : Nat) (es2 : List REnt) (D2 : FS) => rn_end (x := x) (O2 := O2) (a2 := a2) (c2 := c2) (es2 := es2) (D2 := D2) h1 (List.mem_of_getElem? he0) tn)
 have DR := Qh (fun (w2 : World) (v : Value) (hx : Below (w1.alloc (.cells #[.string ⟨e0.s.toArray⟩, .slice e0.a e0.bs.length e0.c, .int .i64 (e0.l : Int)] 124)).heap.size (w1.alloc (.cells #[.string ⟨e0.s.toArray⟩, .slice e0.a e0.bs.length e0.c, .int .i64 (e0.l : Int)] 124)) w2) (ho : OwnFl w2 (w1.alloc (.cells #[.string ⟨e0.s.toArray⟩, .slice e0.a e0.bs.length e0.c, .int .i64 (e0.l : Int)] 124)).heap.size v (es.take (ridx es s.data.toList) ++ es.drop (ridx es s.data.toList + 1))) => hAR.drop_ hx ho rfl hi)
 obtain ⟨n9, hn9⟩ : ∃ n9, n9 = es.length - 1 := ⟨_, rfl⟩
 rw [← hes1] at WT DR
 rw [← hn9] at DR hl1
 have hn63 : n9 ≤ 63 := by omega
 clear hn9
 have HA0 := Qh (Qa hA0 h1)
 clear h1 b1 CD hcs hAR hes1 hA0
 generalize ridx es s.data.toList = i at *
 go_wp2_with fail
 refine (NM.out _).mono ?_
 rintro e1 w2 ⟨rfl, rfl⟩
 go_wp2_with fail
 refine AT.out.mono ?_
 rintro e1 w2 ⟨rfl, rfl⟩
 go_wp2_with fail
 with_reducible refine (WT.out).mono ?_
 rintro e1 w3 ⟨v, rfl, ho, hb⟩
 obtain ⟨a9, c9, hv9, hC, hbC, keepC, hszC⟩ := DR.out w3 v hb ho
 subst hv9
 have x1 := (hb.cell (p := ⟨rp, 1, none⟩) hrA).trans c1A
 have y1 := (World.frozen?_of_block (w := (w1.alloc (.cells #[.string ⟨e0.s.toArray⟩, .slice e0.a e0.bs.length e0.c, .int .i64 (e0.l : Int)] 124))) (a := ⟨rp, 1, none⟩) (hb.block rp hrA)).trans z1A
 rw [zA] at hC keepC hszC
 have hbC1 : But O w1 (w3.setCell ⟨rp, 1, none⟩ (.slice a9 n9 c9)) := (But.of_below HA0.out.1).trans hbC (fun i hi => .inl hi)
 clear hbC
 have AT2 := rat_any hC tn
 unfold ratI at AT2
 have HC := Qh (Qa hC (Qa hbC1 keepC))
 clear ho hb WT DR
 have cC := hC.cell.2.1
 have zC := hC.cell.2.2.2.2 1
 have hrC := hC.lt rp hC.rpO
 rw [hl1] at cC
 by_cases hk : ridx es1 tn.data.toList < es1.length
 · rw [if_pos hk] at AT2
   have AT2 := Qh AT2
   have WT2 := Qh (rwithout_any es1 a9 n9 c9 (ridx es1 tn.data.toList) _ (by have h9 := hC.rfs; rw [hl1] at h9; exact h9) (by omega) (by omega))
   have DR2 := Qh (fun (w2 : World) (v : Value) (hx : Below (w3.setCell ⟨rp, 1, none⟩ (.slice a9 n9 c9)).heap.size (w3.setCell ⟨rp, 1, none⟩ (.slice a9 n9 c9)) w2) (ho : OwnFl w2 (w3.setCell ⟨rp, 1, none⟩ (.slice a9 n9 c9)).heap.size v (es1.take (ridx es1 tn.data.toList) ++ es1.drop (ridx es1 tn.data.toList + 1))) => hC.drop_ hx ho rfl hk)
   obtain ⟨es2, hes2⟩ : ∃ es2, es2 = es1.take (ridx es1 tn.data.toList) ++ es1.drop (ridx es1 tn.data.toList + 1) := ⟨_, rfl⟩
   have hl2 : es2.length = es1.length - 1 := by rw [hes2]; simp; omega
   obtain ⟨n8, hn8⟩ : ∃ n8, n8 = es1.length - 1 := ⟨_, rfl⟩
   rw [← hes2] at WT2 DR2
   rw [← hn8] at DR2 hl2
   have hn62 : n8 ≤ 63 := by omega
   clear hn8
   clear hC hbC1 keepC
   have hj : ridx es1 tn.data.toList < n9 := by omega
   clear hes2
   generalize ridx es1 tn.data.toList = j at *
   go_wp2_with fail
   refine AT2.out.mono ?_
   rintro e1 w4 ⟨rfl, rfl⟩
   go_wp2_with fail
   with_reducible refine (WT2.out).mono ?_
   rintro e1 w4 ⟨v, rfl, ho, hb⟩
   obtain ⟨a8, c8, hv8, hE, hbE, keepE, hszE⟩ := DR2.out w4 v hb ho
   subst hv8
   have x2 := (hb.cell (p := ⟨rp, 1, none⟩) hrC).trans cC
   have y2 := (World.frozen?_of_block (w := (w3.setCell ⟨rp, 1, none⟩ (.slice a9 n9 c9))) (a := ⟨rp, 1, none⟩) (hb.block rp hrC)).trans zC
   have hgone : ∀ e ∈ es2, e.s ≠ tn.data.toList := ridx_none es2 _ (ridx_gone es2 _ (by rw [← hE.D_]; exact fat_del_same _))
   obtain ⟨p0, pz, p1, p2, p3, PUx⟩ := EN.out _ _ _ _ _ _ hE (HC.out.2.1.trans hbE (fun i hi => hi.imp id (fun h => by omega))) (fun k hk => by
    rcases hk with (hk | hk) | hk
    · exact .inl hk
    · exact .inr hk.1
    exact .inr (by omega)) (fun k hk => .inl (.inl hk)) (fun k hk hn => (keepE k (by omega) hn).trans (HC.out.2.2 k hk hn)) (by omega) hgone (by rw [← put_eq]; exact hG)
   rw [← put_eq] at PUx
   have PU := Qh PUx
   clear PUx hE hbE keepE WT2 DR2 ho hb hgone
   go_wp2_with fail
   with_reducible refine PU.out.mono ?_
   rintro e1 w6 ⟨rfl, hmv⟩
   have HF := Qh (RMv.then B1.out hmv)
   clear hmv PU
   go_wp2
   go_ret
   exact ⟨rfl, HF.out⟩
 rw [if_neg hk] at AT2
 have AT2 := Qh AT2
 obtain ⟨p0, pz, p1, p2, p3, PUx⟩ := EN.out _ _ _ _ _ _ hC hbC1 (fun k hk => hk.imp id (fun h => h.1)) (fun k hk => .inl hk) keepC (by omega) (ridx_none es1 _ hk) hG
 have PU := Qh PUx
 clear hC hbC1 keepC PUx
 go_wp2_with fail
 refine AT2.out.mono ?_
 rintro e1 w4 ⟨rfl, rfl⟩
 go_wp2_with fail
 with_reducible refine PU.out.mono ?_
 rintro e1 w6 ⟨rfl, hmv⟩
 have HF := Qh (RMv.then B1.out hmv)
 clear hmv PU
 go_wp2
 go_ret
 exact ⟨rfl, HF.out⟩
end
end
section
open Go.RowKit
open Go.Maps
section
variable {w : World} {rp : Nat} {t : St} {O : Nat → Prop}
theorem rwrite_any (h : Rd w rp t O) (s : ByteArray) (hsz : s.size ≤ maxLen) (ba : Option Addr) (bn bc : Nat) (b : List Nat) (hb : Sl w w.heap.size ba bn bc b) (hbn : bn ≤ 140737488351232) (hfar : 0 < bn → ∀ k o, ba = some ⟨k, o, none⟩ → ¬ O k) :
 Calls Tryz.prog 66 #[.pointer (some ⟨rp, 0, none⟩), .string s, .slice ba bn bc] w fun e w' => e = .returned (.int .i64 (t.write s.data.toList b).1) ∧ RMv w rp O (t.write s.data.toList b).2 w' := by
 obtain ⟨a, c, es, h⟩ := h
 by_cases hf : t.fuse = 0
 · exact rwrite_early h s hsz ba bn bc b hb hbn (.inl hf)
 cases hnm : nmOk s.data.toList with
 | false => exact rwrite_early h s hsz ba bn bc b hb hbn (.inr hnm)
 | true =>
  cases hfit : fitsB t.D t.room s.data.toList b.length with
  | false => exact rwrite_full h s hsz ba bn bc b hb hbn hf hnm hfit
  | true =>
   by_cases hi : ridx es s.data.toList < es.length
   · exact rwrite_old h s hsz ba bn bc b hb hbn hfar hf hnm hi hfit
   exact rwrite_new h s hsz ba bn bc b hb hbn hfar hf hnm hi hfit
theorem rrename_any (h : Rd w rp t O) (s tn : ByteArray) (hsz : tn.size ≤ maxLen) :
 Calls Tryz.prog 64 #[.pointer (some ⟨rp, 0, none⟩), .string s, .string tn] w fun e w' => e = .returned (.int .i64 (t.rename s.data.toList tn.data.toList).1) ∧ RMv w rp O (t.rename s.data.toList tn.data.toList).2 w' := by
 obtain ⟨a, c, es, h⟩ := h
 by_cases hf : t.fuse = 0
 · exact rrename_early h s tn hsz (.inl hf)
 cases hnm : nmOk tn.data.toList with
 | false => exact rrename_early h s tn hsz (.inr (.inl hnm))
 | true =>
  by_cases hi : ridx es s.data.toList < es.length
  · exact rrename_at h s tn hsz hf hnm hi
  exact rrename_early h s tn hsz (.inr (.inr hi))
end
end
end
end Go.Proofs.YtamblmoedommfaaGreatDoor
