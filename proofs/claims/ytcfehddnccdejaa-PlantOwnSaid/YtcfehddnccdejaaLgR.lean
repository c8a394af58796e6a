/- A range over a function whose body changes memory that the iterator reads: the law for the loop. -/
import Derived.RangeFuncNested
import Derived.RangeFuncLeaves
import Derived.Test.YtcfehddnccdejaaRange
namespace Go.Proofs.Ytcfehddnccdejaa
set_option linter.unusedSimpArgs false
set_option linter.unusedVariables false
open Go.RowKit
section
variable {F : Fence} {n : Nat} {P : Program} {w : World}

/-- What the iterator owes, where each round leaves 'U' of what has come. -/
def TellsU {α β : Type} (F : Fence) (n : Nat) (P : Program) (gf : Nat) (lb : Array Value) (encs : α → Array Value) (M : α → Prop) (U : List α → β → World → Prop) (Kp : β → World → β → World → Prop) (S Sp : List α → Prop) (w : World) : Prop :=
  ∀ (l : Nat) (J : List α → β → World → Prop) (Jx : List α → World → Prop) (W : World) (d0 : β), Below w.heap.size w W → w.heap.size + 2 ≤ W.heap.size → (∀ s d X Y, J s d X → Below X.heap.size X Y → J s d Y) → (∀ s d X, J s d X → U s d X) →
    (∀ pre d x X, J pre d X → M x → YieldAt F (n - 1) P l (encs x) X fun e Y => (e = .returned (.bool true) ∧ ∃ d', J (pre ++ [x]) d' Y ∧ Kp d X d' Y) ∨ (e = .returned (.bool false) ∧ Jx (pre ++ [x]) Y)) → J [] d0 W →
    CallsIn F n P gf (#[.func (.yield l) #[] #[]] ++ lb) W fun e Y => (∃ v, e = .returned v) ∧ ((∃ xs d, S xs ∧ J xs d Y) ∨ (∃ pre, Sp pre ∧ Jx pre Y))

/-- The loop's own two blocks are as they were. -/
def KeepsL (D : Nat) (X Y : World) : Prop := Y.heap[D]? = X.heap[D]? ∧ Y.heap[D + 1]? = X.heap[D + 1]?
theorem KeepsL.refl (D : Nat) (X : World) : KeepsL D X X := ⟨rfl, rfl⟩
def postU {α β : Type} (D : Nat) (I : List α → β → World → Prop) (Kp : β → World → β → World → Prop) (d : β) (Ix : Code → List α → World → Prop) (xs : List α) (W : World) : Exit → Act → World → Prop
  | .normal, _, W' => KeepsL D W W' ∧ ∃ d', I xs d' W' ∧ Kp d W d' W'
  | .ret, _, W' => KeepsL D W W' ∧ Ix .ret xs W'
  | .exit id, _, W' => KeepsL D W W' ∧ Ix (.exit id) xs W'
  | .goto t, _, W' => KeepsL D W W' ∧ Ix (.goto t) xs W'
  | .panic _, _, _ => False
  | .outgrown, _, _ => False
theorem LoopAt.keptL {D : Nat} {r : Loop} {X Y : World} (h : LoopAt D r X) (hk : KeepsL D X Y) : LoopAt D r Y := ⟨hk.2.trans h.own, hk.1.trans h.shut⟩
theorem LoopAt.onB {D : Nat} {r : Loop} {X Y : World} (h : LoopAt D r X) (hb : Below X.heap.size X Y) : LoopAt D r Y :=
  ⟨(hb.block _ h.lt).trans h.own, (hb.block _ (by have := h.lt; omega)).trans h.shut⟩

theorem range_tellsU {α β : Type} {g : Operand} {ps : Array Tmp} {assign body : Code} {Q : Exit → Act → World → Prop} {a : Act}
    (hro : F.round = none) (h1 : 1 ≤ n) {gf : Nat} {lb : Array Value} (hg : a.eval g = .func (.func gf) #[] lb) (hF : F.fn gf) (eg : ∀ args w, (callFunc gf args).run P w = .ok (.enter gf args) w)
    {encs : α → Array Value} {M : α → Prop} {U : List α → β → World → Prop} {Kp : β → World → β → World → Prop} {S Sp : List α → Prop} (hseq : TellsU F (n - 1) P gf lb encs M U Kp S Sp w) (hps : ∀ x, (encs x).size = ps.size)
    (I : List α → β → World → Prop) (Ix : Code → List α → World → Prop) (d0 : β) (hI : ∀ pre d X Y, I pre d X → Below X.heap.size X Y → I pre d Y)
    (hI2 : ∀ pre d X r o, I pre d X → X.heap[w.heap.size + 1]? = some (.loop r) → I pre d (X.putObj (w.heap.size + 1) o)) (hKp : ∀ d X d' Y o o', Kp d (X.putObj (w.heap.size + 1) o) d' Y → Kp d X d' (Y.putObj (w.heap.size + 1) o')) (hIx2 : ∀ c pre X r o, Ix c pre X → X.heap[w.heap.size + 1]? = some (.loop r) → Ix c pre (X.putObj (w.heap.size + 1) o))
    (hU : ∀ pre d X, I pre d X → U pre d X) (h0 : I [] d0 w) (Ax : α → Act)
    (hassign : ∀ (l : Nat) (pre : List α) (d : β) (x : α) (W : World) (K : Act → World → Prop), I pre d W → M x → K (Ax x) W →
      assign.wpIn (F.inRound l) (n - 1 - 1) P (Exit.then K (fun _ _ _ => False)) { tmps := (ps.zip (encs x)).foldl (fun t (p, v) => t.setIfInBounds p v) a.tmps, defers := [] } W)
    (hbody : ∀ (l : Nat) (pre : List α) (d : β) (x : α) (W : World), I pre d W → M x → w.heap.size + 2 ≤ W.heap.size → body.wpIn (F.inRound l) (n - 1 - 1) P (postU w.heap.size I Kp d Ix (pre ++ [x]) W) (Ax x) W)
    (hdone : ∀ (xs : List α) (d : β) (W : World), S xs → I xs d W → W.heap[w.heap.size]? = some (.deferred (some [])) → Q .normal { a with defers := { target := .collected w.heap.size, args := #[] } :: a.defers } W)
    (hstop : ∀ (c : Code) (pre : List α) (W : World), Sp pre → Ix c pre W → W.heap[w.heap.size]? = some (.deferred (some [])) → c.wpIn F n P Q { a with defers := { target := .collected w.heap.size, args := #[] } :: a.defers } W) :
    (Code.rangeFunc g ps assign body).wpIn F n P Q a w := by
  refine wpIn_rangeFunc fun fn hfn => ?_
  rw [hro]
  obtain ⟨R, hR⟩ : ∃ R : LoopState → Option Code → Loop, R = fun s p => { state := s, pending := p, fn, tmps := a.tmps, params := ps, assign, body, defers := w.heap.size } := ⟨_, rfl⟩
  obtain ⟨V, hV⟩ : ∃ V, V = (w.alloc (.deferred (some []))).alloc (.loop (R .ready none)) := ⟨_, rfl⟩
  have hL : LoopAt w.heap.size (R .ready none) V := by
    rw [hV]
    refine ⟨?_, (Below.heap_alloc _ _ _ (by simp)).trans (World.alloc_heap_new w _)⟩
    have := World.alloc_heap_new (w.alloc (.deferred (some []))) (.loop (R .ready none))
    rwa [World.size_alloc] at this
  have hbV : Below w.heap.size w V := by rw [hV]; exact ((Below.refl _ w).alloc (Nat.le_refl _) _).alloc (by simp) _
  have hIV : I [] d0 V := hI _ _ _ _ h0 hbV
  refine ⟨w.heap.size + 1, [{ target := .collected w.heap.size, args := #[] }], V, { target := .fn (.func gf) lb, args := #[.func (.yield (w.heap.size + 1)) #[] #[]] }, V, gf, #[.func (.yield (w.heap.size + 1)) #[] #[]] ++ lb, V, ?_, ?_, ?_, ?_, fun _ => h1, ?_⟩
  · rw [hV, hR]; exact run_enterLoop_outer _ _ _ _ _
  · simp only [resolve, hg]; simp [go_sem]
  · intro f' hf'; simp [Target.leads] at hf'; subst hf'; exact hF
  · simp [invoke, go_sem, eg]
  refine (hseq (w.heap.size + 1) (fun pre d W => I pre d W ∧ LoopAt w.heap.size (R .ready none) W) (fun pre W => ∃ c, Ix c pre W ∧ LoopAt w.heap.size (R .done (some c)) W) V d0 hbV (by rw [hV]; simp)
    (fun s d X Y h hb => ⟨hI s d X Y h.1 hb, h.2.onB hb⟩) (fun s d X h => hU s d X h.1) ?_ ⟨hIV, hL⟩).mono ?_
  · rintro pre d x X ⟨hi, hX⟩ hm
    have hy := run_yield (P := P) (args := encs x) hX.own (by rw [hR]; exact hps x)
    rw [hR] at hy
    refine ⟨fn, _, assign, body, hy, roundIn_of_wpIn hfn (hassign _ pre d x X _ hi hm ?_)⟩
    clear hy
    refine ⟨_, run_beginRound hX.own (by rw [hR]), ?_⟩
    have hZ := hX.put { R .ready none with state := .busy }
    refine wpIn_mono (hbody _ pre d x _ (hI2 _ _ _ _ _ hi hX.own) hm hZ.lt) ?_
    have fin : ∀ (jump : Option Code) (U : World), KeepsL w.heap.size (X.putObj (w.heap.size + 1) (.loop { R .ready none with state := .busy })) U →
        (Instr.endRound (w.heap.size + 1) jump).run P U = .ok (.bool jump.isNone) (U.putObj (w.heap.size + 1) (.loop (R (if jump.isNone then .ready else .done) jump))) ∧ LoopAt w.heap.size { R .ready none with state := .busy } U ∧
        LoopAt w.heap.size (R (if jump.isNone then .ready else .done) jump) (U.putObj (w.heap.size + 1) (.loop (R (if jump.isNone then .ready else .done) jump))) := fun jump U hk => by
      have hU := hZ.keptL hk
      have := run_endRound (P := P) jump hU.own
      refine ⟨?_, hU, hU.put _⟩
      rw [hR] at this ⊢
      exact this
    rintro e a3 U hp
    match e, hp with
    | .normal, ⟨p1, d', p3, p4⟩ =>
      obtain ⟨q1, q2, q3⟩ := fin none U p1
      exact ⟨_, _, q1, .inl ⟨rfl, d', ⟨hI2 _ _ _ _ _ p3 q2.own, q3⟩, hKp _ _ _ _ _ _ p4⟩⟩
    | .ret, ⟨p1, p3⟩ =>
      obtain ⟨q1, q2, q3⟩ := fin (some .ret) U p1
      exact ⟨_, _, q1, .inr ⟨rfl, .ret, hIx2 _ _ _ _ _ p3 q2.own, q3⟩⟩
    | .exit id, ⟨p1, p3⟩ =>
      obtain ⟨q1, q2, q3⟩ := fin (some (.exit id)) U p1
      exact ⟨_, _, q1, .inr ⟨rfl, .exit id, hIx2 _ _ _ _ _ p3 q2.own, q3⟩⟩
    | .goto t, ⟨p1, p3⟩ =>
      obtain ⟨q1, q2, q3⟩ := fin (some (.goto t)) U p1
      exact ⟨_, _, q1, .inr ⟨rfl, .goto t, hIx2 _ _ _ _ _ p3 q2.own, q3⟩⟩
  · rintro e U ⟨⟨v, rfl⟩, h⟩
    have last : ∀ {s : LoopState} {p : Option Code}, LoopAt w.heap.size (R s p) U → s ≠ .busy → (Instr.endLoop (w.heap.size + 1)).run P U = .ok p (U.putObj (w.heap.size + 1) (.loop { R s p with state := .exhausted })) := fun {s p} h hs => by
      have := run_endLoop (P := P) h.own (by rw [hR]; exact hs)
      rw [hR] at this ⊢
      exact this
    rcases h with ⟨xs, d, hS, hi, hU⟩ | ⟨pre, hSp, c, hi, hU⟩
    · exact ⟨none, _, last hU (by simp), hdone xs d _ hS (hI2 _ _ _ _ _ hi hU.own) ((World.putObj_heap_other (by omega)).trans hU.shut)⟩
    · exact ⟨some c, _, last hU (by simp), hstop c pre _ hSp (hIx2 _ _ _ _ _ hi hU.own) ((World.putObj_heap_other (by omega)).trans hU.shut)⟩
end
abbrev encS (x : List UInt8) : Array Value := #[.string ⟨x.toArray⟩]
abbrev shortS (x : List UInt8) : Prop := x.length ≤ 281474976710656
end Go.Proofs.Ytcfehddnccdejaa
