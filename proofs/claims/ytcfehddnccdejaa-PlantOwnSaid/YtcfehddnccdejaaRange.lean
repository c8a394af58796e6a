/- A range over a function whose iterator tells something of memory with what it hands over: the law for the loop. -/
import Derived.RangeFuncNested
import Derived.RangeFuncLeaves
namespace Go.Proofs.Ytcfehddnccdejaa
set_option linter.unusedSimpArgs false
set_option linter.unusedVariables false
open Go.RowKit
section
variable {F : Fence} {n : Nat} {P : Program} {w : World}

/-- The loop's two blocks: its record, and the block for the rounds' deferred calls. -/
structure LoopAt (D : Nat) (r : Loop) (W : World) : Prop where
  own : W.heap[D + 1]? = some (.loop r)
  shut : W.heap[D]? = some (.deferred (some []))
theorem LoopAt.abides {D B : Nat} {r : Loop} {X Y : World} {row : Option Nat} (h : LoopAt D r X) (hg : X.grownBy Y row) (hr : ∀ k, row = some k → B ≤ k ∧ ∃ o : Obj, X.heap[k]? = some o ∧ o.isWalk = true) : LoopAt D r Y :=
  ⟨(grownBy_keeps hg (fun k e => (hr k e).2) h.own rfl).trans h.own, (grownBy_keeps hg (fun k e => (hr k e).2) h.shut rfl).trans h.shut⟩
theorem LoopAt.kept {D : Nat} {r : Loop} {X Y : World} (h : LoopAt D r X) (hk : KeepsFrom D X Y) : LoopAt D r Y := ⟨hk.same _ _ (by omega) h.own rfl, hk.same _ _ (Nat.le_refl _) h.shut rfl⟩
theorem LoopAt.lt {D : Nat} {r : Loop} {X : World} (h : LoopAt D r X) : D + 1 < X.heap.size := (Array.getElem?_eq_some_iff.1 h.own).1
theorem LoopAt.put {D : Nat} {r : Loop} {X : World} (h : LoopAt D r X) (r' : Loop) : LoopAt D r' (X.putObj (D + 1) (.loop r')) := ⟨World.putObj_heap_same h.lt, (World.putObj_heap_other (by omega)).trans h.shut⟩

/-- What the iterator owes: with each x that it hands over it tells 'M x' of the world in which it does. -/
def Tells {α : Type} (F : Fence) (n : Nat) (P : Program) (gf : Nat) (lb : Array Value) (encs : α → Array Value) (M : α → World → Prop) (Kp : World → World → Prop) (S Sp : List α → Prop) (N : Nat) (w : World) : Prop :=
  ∀ (l : Nat) (J Jx : List α → World → Prop) (W : World), Below w.heap.size w W → AbidesFrom W.heap.size J → AbidesFrom W.heap.size Jx →
    (∀ pre x X, J pre X → M x X → pre.length < N → YieldAt F (n - 1) P l (encs x) X fun e Y => (e = .returned (.bool true) ∧ J (pre ++ [x]) Y ∧ Kp X Y) ∨ (e = .returned (.bool false) ∧ Jx (pre ++ [x]) Y)) → J [] W →
    CallsIn F n P gf (#[.func (.yield l) #[] #[]] ++ lb) W fun e Y => (∃ v, e = .returned v) ∧ ((∃ xs, S xs ∧ J xs Y) ∨ (∃ pre, Sp pre ∧ Jx pre Y))

theorem range_tells {α : Type} {g : Operand} {ps : Array Tmp} {assign body : Code} {Q : Exit → Act → World → Prop} {a : Act}
    (hro : F.round = none) (h1 : 1 ≤ n) {gf : Nat} {lb : Array Value} (hg : a.eval g = .func (.func gf) #[] lb) (hF : F.fn gf) (eg : ∀ args w, (callFunc gf args).run P w = .ok (.enter gf args) w)
    {encs : α → Array Value} {M : α → World → Prop} {Kp : World → World → Prop} {S Sp : List α → Prop} {N : Nat} (hseq : Tells F (n - 1) P gf lb encs M Kp S Sp N w)
    (hKt : ∀ {X Y Z : World}, Kp X Y → Kp Y Z → Kp X Z) (hKb : ∀ (W : World) (l : Nat) (o o' : Obj), w.heap.size ≤ l → W.heap[l]? = some o → o.isCells = false → o.isWalk = false → Kp W (W.putObj l o')) (hps : ∀ x, (encs x).size = ps.size)
    (I : List α → World → Prop) (Ix : Code → List α → World → Prop) (hI : OwnFrom w.heap.size I) (hIx : ∀ c, OwnFrom w.heap.size (Ix c)) (h0 : I [] w) (Ax : α → Act → World → Prop) (hAx : ∀ x a', OwnFrom w.heap.size (fun (_ : Unit) W => Ax x a' W))
    (hassign : ∀ (l : Nat) (pre : List α) (x : α) (W : World) (K : Act → World → Prop), I pre W → M x W → (∀ a' W', KeepsFrom w.heap.size W W' → Kp W W' → I pre W' → Ax x a' W' → K a' W') →
      assign.wpIn (F.inRound l) (n - 1 - 1) P (Exit.then K (fun _ _ _ => False)) { tmps := (ps.zip (encs x)).foldl (fun t (p, v) => t.setIfInBounds p v) a.tmps, defers := [] } W)
    (hbody : ∀ (l : Nat) (pre : List α) (x : α) (a' : Act) (W : World), I pre W → Ax x a' W → pre.length < N → body.wpIn (F.inRound l) (n - 1 - 1) P (ownPostG w.heap.size Kp I Ix (pre ++ [x]) W) a' W)
    (hdone : ∀ (D : Nat) (xs : List α) (W : World), w.heap.size ≤ D → S xs → I xs W → W.heap[D]? = some (.deferred (some [])) → Q .normal { a with defers := { target := .collected D, args := #[] } :: a.defers } W)
    (hstop : ∀ (D : Nat) (c : Code) (pre : List α) (W : World), w.heap.size ≤ D → Sp pre → Ix c pre W → W.heap[D]? = some (.deferred (some [])) → c.wpIn F n P Q { a with defers := { target := .collected D, args := #[] } :: a.defers } W) :
    (Code.rangeFunc g ps assign body).wpIn F n P Q a w := by
  refine wpIn_rangeFunc fun fn hfn => ?_
  rw [hro]
  obtain ⟨R, hR⟩ : ∃ R : LoopState → Option Code → Loop, R = fun s p => { state := s, pending := p, fn, tmps := a.tmps, params := ps, assign, body, defers := w.heap.size } := ⟨_, rfl⟩
  obtain ⟨V, hV⟩ : ∃ V, V = (w.alloc (.deferred (some []))).alloc (.loop (R .ready none)) := ⟨_, rfl⟩
  have hsV : V.heap.size = w.heap.size + 2 := by rw [hV]; simp
  have hL : LoopAt w.heap.size (R .ready none) V := by
    rw [hV]
    refine ⟨?_, (Below.heap_alloc _ _ _ (by simp)).trans (World.alloc_heap_new w _)⟩
    have := World.alloc_heap_new (w.alloc (.deferred (some []))) (.loop (R .ready none))
    rwa [World.size_alloc] at this
  have hIV : I [] V := by rw [hV]; exact hI.alloc _ (hI.alloc _ h0)
  have hbV : Below w.heap.size w V := by rw [hV]; exact ((Below.refl _ w).alloc (Nat.le_refl _) _).alloc (by simp) _
  refine ⟨w.heap.size + 1, [{ target := .collected w.heap.size, args := #[] }], V, { target := .fn (.func gf) lb, args := #[.func (.yield (w.heap.size + 1)) #[] #[]] }, V, gf, #[.func (.yield (w.heap.size + 1)) #[] #[]] ++ lb, V, ?_, ?_, ?_, ?_, fun _ => h1, ?_⟩
  · rw [hV, hR]; exact run_enterLoop_outer _ _ _ _ _
  · simp only [resolve, hg]; simp [go_sem]
  · intro f' hf'; simp [Target.leads] at hf'; subst hf'; exact hF
  · simp [invoke, go_sem, eg]
  have rows : ∀ {X Y : World} {row : Option Nat}, (∀ r, row = some r → V.heap.size ≤ r ∧ ∃ o : Obj, X.heap[r]? = some o ∧ o.isWalk = true) → (∀ r, row = some r → w.heap.size ≤ r ∧ ∃ o : Obj, X.heap[r]? = some o ∧ o.isCells = false) := fun hr r e => by
    obtain ⟨hB, o, ho, hw⟩ := hr r e
    exact ⟨by omega, o, ho, Obj.not_cells_of_walk hw⟩
  refine (hseq (w.heap.size + 1) (fun pre W => I pre W ∧ LoopAt w.heap.size (R .ready none) W) (fun pre W => ∃ c, Ix c pre W ∧ LoopAt w.heap.size (R .done (some c)) W) V hbV
    (fun s X Y row h hg' hr => ⟨hI s X Y row h.1 hg' (rows (Y := Y) hr), h.2.abides hg' hr⟩)
    (fun s X Y row h hg' hr => by obtain ⟨c, h1, h2⟩ := h; exact ⟨c, hIx c s X Y row h1 hg' (rows (Y := Y) hr), h2.abides hg' hr⟩) ?_ ⟨hIV, hL⟩).mono ?_
  · rintro pre x X ⟨hi, hX⟩ hm hlen
    have hy := run_yield (P := P) (args := encs x) hX.own (by rw [hR]; exact hps x)
    rw [hR] at hy
    refine ⟨fn, _, assign, body, hy, roundIn_of_wpIn hfn (hassign _ pre x X _ hi hm ?_)⟩
    clear hy
    intro a' Y hkf hkp hiY hax
    have hY := hX.kept hkf
    refine ⟨_, run_beginRound hY.own (by rw [hR]), ?_⟩
    have hZ := hY.put { R .ready none with state := .busy }
    have hkZ : Kp Y (Y.putObj (w.heap.size + 1) (.loop { R .ready none with state := .busy })) := hKb _ _ _ _ (by omega) hY.own rfl rfl
    refine wpIn_mono (hbody _ pre x a' _ (hI.putObj _ hiY (by omega) hY.own rfl) ((hAx x a').putObj (s := ()) _ hax (by omega) hY.own rfl) hlen) ?_
    have fin : ∀ (jump : Option Code) (U : World), KeepsFrom w.heap.size (Y.putObj (w.heap.size + 1) (.loop { R .ready none with state := .busy })) U →
        (Instr.endRound (w.heap.size + 1) jump).run P U = .ok (.bool jump.isNone) (U.putObj (w.heap.size + 1) (.loop (R (if jump.isNone then .ready else .done) jump))) ∧ LoopAt w.heap.size { R .ready none with state := .busy } U ∧
        LoopAt w.heap.size (R (if jump.isNone then .ready else .done) jump) (U.putObj (w.heap.size + 1) (.loop (R (if jump.isNone then .ready else .done) jump))) := fun jump U hk => by
      have hU := hZ.kept hk
      have := run_endRound (P := P) jump hU.own
      refine ⟨?_, hU, hU.put _⟩
      rw [hR] at this ⊢
      exact this
    rintro e a3 U hp
    match e, hp with
    | .normal, ⟨p1, p2, p3⟩ =>
      obtain ⟨q1, q2, q3⟩ := fin none U p1
      exact ⟨_, _, q1, .inl ⟨rfl, ⟨hI.putObj _ p3 (by omega) q2.own rfl, q3⟩, hKt hkp (hKt (hKt hkZ p2) (hKb _ _ _ _ (by omega) q2.own rfl rfl))⟩⟩
    | .ret, ⟨p1, p3⟩ =>
      obtain ⟨q1, q2, q3⟩ := fin (some .ret) U p1
      exact ⟨_, _, q1, .inr ⟨rfl, .ret, (hIx _).putObj _ p3 (by omega) q2.own rfl, q3⟩⟩
    | .exit id, ⟨p1, p3⟩ =>
      obtain ⟨q1, q2, q3⟩ := fin (some (.exit id)) U p1
      exact ⟨_, _, q1, .inr ⟨rfl, .exit id, (hIx _).putObj _ p3 (by omega) q2.own rfl, q3⟩⟩
    | .goto t, ⟨p1, p3⟩ =>
      obtain ⟨q1, q2, q3⟩ := fin (some (.goto t)) U p1
      exact ⟨_, _, q1, .inr ⟨rfl, .goto t, (hIx _).putObj _ p3 (by omega) q2.own rfl, q3⟩⟩
  · rintro e U ⟨⟨v, rfl⟩, h⟩
    have last : ∀ {s : LoopState} {p : Option Code}, LoopAt w.heap.size (R s p) U → s ≠ .busy → (Instr.endLoop (w.heap.size + 1)).run P U = .ok p (U.putObj (w.heap.size + 1) (.loop { R s p with state := .exhausted })) := fun {s p} h hs => by
      have := run_endLoop (P := P) h.own (by rw [hR]; exact hs)
      rw [hR] at this ⊢
      exact this
    rcases h with ⟨xs, hS, hi, hU⟩ | ⟨pre, hSp, c, hi, hU⟩
    · exact ⟨none, _, last hU (by simp), hdone _ xs _ (Nat.le_refl _) hS (hI.putObj _ hi (by omega) hU.own rfl) ((World.putObj_heap_other (by omega)).trans hU.shut)⟩
    · exact ⟨some c, _, last hU (by simp), hstop _ c pre _ (Nat.le_refl _) hSp ((hIx c).putObj _ hi (by omega) hU.own rfl) ((World.putObj_heap_other (by omega)).trans hU.shut)⟩
end
end Go.Proofs.Ytcfehddnccdejaa
