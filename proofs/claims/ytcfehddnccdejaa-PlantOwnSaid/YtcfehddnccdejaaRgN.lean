/- A range over a function, by the number of rounds that are over; the iterator may range over another one itself. -/
import Derived.RangeFuncNested
import Derived.RangeFuncLeaves
import Derived.Test.YtcfehddnccdejaaLgR
namespace Go.Proofs.Ytcfehddnccdejaa
set_option linter.unusedSimpArgs false
set_option linter.unusedVariables false
open Go.RowKit
section
variable {F : Fence} {n : Nat} {P : Program} {w : World}

/-- From block B on all is as it was. -/
structure KpU (B : Nat) (X Y : World) : Prop where
  size : X.heap.size ≤ Y.heap.size
  same : ∀ j, B ≤ j → j < X.heap.size → Y.heap[j]? = X.heap[j]?
theorem KpU.refl (B : Nat) (X : World) : KpU B X X := ⟨Nat.le_refl _, fun _ _ _ => rfl⟩
theorem KpU.trans {B : Nat} {X Y Z : World} (h : KpU B X Y) (k : KpU B Y Z) : KpU B X Z := ⟨Nat.le_trans h.size k.size, fun j hj hl => (k.same j hj (Nat.lt_of_lt_of_le hl h.size)).trans (h.same j hj hl)⟩
theorem KpU.mono {B B' : Nat} {X Y : World} (h : KpU B X Y) (hB : B ≤ B') : KpU B' X Y := ⟨h.size, fun j hj hl => h.same j (by omega) hl⟩
theorem KpU.of {B : Nat} {X Y : World} (h : Below X.heap.size X Y) : KpU B X Y := ⟨h.size, fun j _ hl => h.block j hl⟩
theorem KpU.set {B : Nat} {X : World} {p : Addr} (hp : p.block < B) (v : Value) : KpU B X (X.setCell p v) := ⟨by simp [World.setCell], fun j hj _ => Below.heap_setCell X p v j (by omega)⟩
theorem KpU.boxed {B j : Nat} {X Y : World} {t : TypeId} {v : Value} (h : KpU B X Y) (hb : Boxed X j t v) (hj : B ≤ j) : Boxed Y j t v := (h.same j hj hb.lt).trans hb
theorem grown_below {X Y : World} {row : Option Nat} {B : Nat} (hg : X.grownBy Y row) (hB : B ≤ X.heap.size) (hr : ∀ r, row = some r → B ≤ r) : Below B X Y :=
  ⟨hg.os, hg.tape, hg.output, hg.size, fun k hk => hg.block k (by omega) (fun e => by have := hr k e.symm; omega)⟩

/-- What the iterator owes: its k-th word is 'encs k x', and there are N of them; each round leaves 'U' of how many are over. -/
def TellsN {α : Type} (F : Fence) (n : Nat) (P : Program) (gf : Nat) (lb : Array Value) (encs : Nat → α → Array Value) (U : Nat → World → Prop) (N : Nat) (w : World) : Prop :=
  ∀ (l : Nat) (J : Nat → World → Prop) (Jx : World → Prop) (W : World), Below w.heap.size w W → w.heap.size + 2 ≤ W.heap.size → OwnFrom W.heap.size J → OwnFrom W.heap.size (fun (_ : Unit) => Jx) → (∀ k X, J k X → U k X) →
    (∀ k x X, J k X → k < N → YieldAt F (n - 1) P l (encs k x) X fun e Y => KpU (w.heap.size + 2) X Y ∧ ((e = .returned (.bool true) ∧ J (k + 1) Y) ∨ (e = .returned (.bool false) ∧ Jx Y))) → J 0 W →
    CallsIn F n P gf (#[.func (.yield l) #[] #[]] ++ lb) W fun e Y => (∃ v, e = .returned v) ∧ (J N Y ∨ Jx Y)

/-- How the body of a round may be left. -/
def postN (D : Nat) (I : Nat → World → Prop) (Ix : Code → World → Prop) (k : Nat) (W : World) : Exit → Act → World → Prop
  | .normal, _, W' => KpU D W W' ∧ I k W'
  | .ret, _, W' => KpU D W W' ∧ Ix .ret W'
  | .exit id, _, W' => KpU D W W' ∧ Ix (.exit id) W'
  | .goto t, _, W' => KpU D W W' ∧ Ix (.goto t) W'
  | .panic _, _, _ => False
  | .outgrown, _, _ => False
theorem LoopAt.upN {D : Nat} {r : Loop} {X Y : World} (h : LoopAt D r X) (hk : KpU D X Y) : LoopAt D r Y :=
  ⟨(hk.same _ (by omega) h.lt).trans h.own, (hk.same _ (Nat.le_refl _) (by have := h.lt; omega)).trans h.shut⟩
theorem LoopAt.grownN {D B : Nat} {r : Loop} {X Y : World} {row : Option Nat} (h : LoopAt D r X) (hg : X.grownBy Y row) (hr : ∀ k, row = some k → B ≤ k) (hB : D + 2 ≤ B) : LoopAt D r Y :=
  ⟨(hg.block _ h.lt (fun e => by have := hr _ e.symm; omega)).trans h.own, (hg.block _ (by have := h.lt; omega) (fun e => by have := hr _ e.symm; omega)).trans h.shut⟩
theorem KpU.puts {D : Nat} {X Y : World} {o o' : Obj} (h : KpU D (X.putObj (D + 1) o) Y) : KpU (D + 2) X (Y.putObj (D + 1) o') :=
  ⟨by have := h.size; simp at this ⊢; exact this, fun j hj hl => by
    have := h.same j (by omega) (by simp; exact hl)
    rw [World.putObj_heap_other (by omega), this, World.putObj_heap_other (by omega)]⟩

theorem range_N {α : Type} {g : Operand} {ps : Array Tmp} {assign body : Code} {Q : Exit → Act → World → Prop} {a : Act}
    (hro : F.round = none) (h1 : 1 ≤ n) {gf : Nat} {lb : Array Value} (hg : a.eval g = .func (.func gf) #[] lb) (hF : F.fn gf) (eg : ∀ args w, (callFunc gf args).run P w = .ok (.enter gf args) w)
    {encs : Nat → α → Array Value} {U : Nat → World → Prop} {N : Nat} (hseq : TellsN F (n - 1) P gf lb encs U N w) (hps : ∀ k x, (encs k x).size = ps.size)
    (I : Nat → World → Prop) (Ix : Code → World → Prop) (hI : OwnFrom w.heap.size I) (hIx : OwnFrom w.heap.size Ix)
    (hU : ∀ k X, I k X → U k X) (h0 : I 0 w) (Ax : Nat → α → Act)
    (hassign : ∀ (l : Nat) (k : Nat) (x : α) (W : World) (K : Act → World → Prop), I k W → k < N → K (Ax k x) W →
      assign.wpIn (F.inRound l) (n - 1 - 1) P (Exit.then K (fun _ _ _ => False)) { tmps := (ps.zip (encs k x)).foldl (fun t (p, v) => t.setIfInBounds p v) a.tmps, defers := [] } W)
    (hbody : ∀ (l : Nat) (k : Nat) (x : α) (W : World), I k W → k < N → w.heap.size + 2 ≤ W.heap.size → body.wpIn (F.inRound l) (n - 1 - 1) P (postN w.heap.size I Ix (k + 1) W) (Ax k x) W)
    (hdone : ∀ (W : World), I N W → W.heap[w.heap.size]? = some (.deferred (some [])) → Q .normal { a with defers := { target := .collected w.heap.size, args := #[] } :: a.defers } W)
    (hstop : ∀ (c : Code) (W : World), Ix c W → W.heap[w.heap.size]? = some (.deferred (some [])) → c.wpIn F n P Q { a with defers := { target := .collected w.heap.size, args := #[] } :: a.defers } W) :
    (Code.rangeFunc g ps assign body).wpIn F n P Q a w := by
  refine wpIn_rangeFunc fun fn hfn => ?_
  rw [hro]
  obtain ⟨R, hR⟩ : ∃ R : LoopState → Option Code → Loop, R = fun s p => { state := s, pending := p, fn, tmps := a.tmps, params := ps, assign, body, defers := w.heap.size } := ⟨_, rfl⟩
  obtain ⟨V, hV⟩ : ∃ V, V = (w.alloc (.deferred (some []))).alloc (.loop (R .ready none)) := ⟨_, rfl⟩
  have hsV : V.heap.size = w.heap.size + 2 := by rw [hV]; simp
  have hL : LoopAt w.heap.size (R .ready none) V := by
    rw [hV]
    refine ⟨?_, (Below.heap_alloc _ _ _ (by simp)).trans (World.alloc_heap_new w _)⟩
    have := World.alloc_heap_new (w.alloc (.deferred (some []))) (.loop (R .ready none))
    rwa [World.size_alloc] at this
  have hbV : Below w.heap.size w V := by rw [hV]; exact ((Below.refl _ w).alloc (Nat.le_refl _) _).alloc (by simp) _
  have hIV : I 0 V := by rw [hV]; exact hI.alloc _ (hI.alloc _ h0)
  refine ⟨w.heap.size + 1, [{ target := .collected w.heap.size, args := #[] }], V, { target := .fn (.func gf) lb, args := #[.func (.yield (w.heap.size + 1)) #[] #[]] }, V, gf, #[.func (.yield (w.heap.size + 1)) #[] #[]] ++ lb, V, ?_, ?_, ?_, ?_, fun _ => h1, ?_⟩
  · rw [hV, hR]; exact run_enterLoop_outer _ _ _ _ _
  · simp only [resolve, hg]; simp [go_sem]
  · intro f' hf'; simp [Target.leads] at hf'; subst hf'; exact hF
  · simp [invoke, go_sem, eg]
  refine (hseq (w.heap.size + 1) (fun k W => I k W ∧ LoopAt w.heap.size (R .ready none) W) (fun W => ∃ c, Ix c W ∧ LoopAt w.heap.size (R .done (some c)) W) V hbV (by omega)
    (fun s X Y row h hg' hr => ⟨hI s X Y row h.1 hg' (fun r e => ⟨by have := (hr r e).1; omega, (hr r e).2⟩), h.2.grownN hg' (fun r e => (hr r e).1) (by omega)⟩)
    (fun s X Y row h hg' hr => by obtain ⟨c, h1, h2⟩ := h; exact ⟨c, hIx c X Y row h1 hg' (fun r e => ⟨by have := (hr r e).1; omega, (hr r e).2⟩), h2.grownN hg' (fun r e => (hr r e).1) (by omega)⟩)
    (fun s X h => hU s X h.1) ?_ ⟨hIV, hL⟩).mono ?_
  · rintro k x X ⟨hi, hX⟩ hm
    have hy := run_yield (P := P) (args := encs k x) hX.own (by rw [hR]; exact hps k x)
    rw [hR] at hy
    refine ⟨fn, _, assign, body, hy, roundIn_of_wpIn hfn (hassign _ k x X _ hi hm ?_)⟩
    clear hy
    refine ⟨_, run_beginRound hX.own (by rw [hR]), ?_⟩
    have hZ := hX.put { R .ready none with state := .busy }
    refine wpIn_mono (hbody _ k x _ (hI.putObj _ hi (by omega) hX.own rfl) hm hZ.lt) ?_
    have fin : ∀ (jump : Option Code) (U : World), KpU w.heap.size (X.putObj (w.heap.size + 1) (.loop { R .ready none with state := .busy })) U →
        (Instr.endRound (w.heap.size + 1) jump).run P U = .ok (.bool jump.isNone) (U.putObj (w.heap.size + 1) (.loop (R (if jump.isNone then .ready else .done) jump))) ∧ LoopAt w.heap.size { R .ready none with state := .busy } U ∧
        LoopAt w.heap.size (R (if jump.isNone then .ready else .done) jump) (U.putObj (w.heap.size + 1) (.loop (R (if jump.isNone then .ready else .done) jump))) := fun jump U hk => by
      have hU := hZ.upN hk
      have := run_endRound (P := P) jump hU.own
      refine ⟨?_, hU, hU.put _⟩
      rw [hR] at this ⊢
      exact this
    rintro e a3 U hp
    match e, hp with
    | .normal, ⟨p1, p3⟩ =>
      obtain ⟨q1, q2, q3⟩ := fin none U p1
      exact ⟨_, _, q1, p1.puts, .inl ⟨rfl, hI.putObj _ p3 (by omega) q2.own rfl, q3⟩⟩
    | .ret, ⟨p1, p3⟩ =>
      obtain ⟨q1, q2, q3⟩ := fin (some .ret) U p1
      exact ⟨_, _, q1, p1.puts, .inr ⟨rfl, .ret, hIx.putObj _ p3 (by omega) q2.own rfl, q3⟩⟩
    | .exit id, ⟨p1, p3⟩ =>
      obtain ⟨q1, q2, q3⟩ := fin (some (.exit id)) U p1
      exact ⟨_, _, q1, p1.puts, .inr ⟨rfl, .exit id, hIx.putObj _ p3 (by omega) q2.own rfl, q3⟩⟩
    | .goto t, ⟨p1, p3⟩ =>
      obtain ⟨q1, q2, q3⟩ := fin (some (.goto t)) U p1
      exact ⟨_, _, q1, p1.puts, .inr ⟨rfl, .goto t, hIx.putObj _ p3 (by omega) q2.own rfl, q3⟩⟩
  · rintro e U ⟨⟨v, rfl⟩, h⟩
    have last : ∀ {s : LoopState} {p : Option Code}, LoopAt w.heap.size (R s p) U → s ≠ .busy → (Instr.endLoop (w.heap.size + 1)).run P U = .ok p (U.putObj (w.heap.size + 1) (.loop { R s p with state := .exhausted })) := fun {s p} h hs => by
      have := run_endLoop (P := P) h.own (by rw [hR]; exact hs)
      rw [hR] at this ⊢
      exact this
    rcases h with ⟨hi, hU⟩ | ⟨c, hi, hU⟩
    · exact ⟨none, _, last hU (by simp), hdone _ (hI.putObj _ hi (by omega) hU.own rfl) ((World.putObj_heap_other (by omega)).trans hU.shut)⟩
    · exact ⟨some c, _, last hU (by simp), hstop c _ (hIx.putObj _ hi (by omega) hU.own rfl) ((World.putObj_heap_other (by omega)).trans hU.shut)⟩
/-- A call of yield, from whatever round. -/
theorem yield_wide {m m' l l0 : Nat} {args : Array Value} {W : World} {R : Ending → World → Prop} (h : YieldAt Fence.wide m P l args W R) : YieldAt (Fence.wide.inRound l0) m' P l args W R := by
  obtain ⟨fn, tmps, assign, body, hy, hf, hr⟩ := h
  exact ⟨fn, tmps, assign, body, hy, hf, fun c cs hroom => hr c cs (fun d hd => by cases hd)⟩
theorem yield_wide0 {m m' l : Nat} {args : Array Value} {W : World} {R : Ending → World → Prop} (h : YieldAt Fence.wide m P l args W R) : YieldAt Fence.wide m' P l args W R := by
  obtain ⟨fn, tmps, assign, body, hy, hf, hr⟩ := h
  exact ⟨fn, tmps, assign, body, hy, hf, fun c cs hroom => hr c cs (fun d hd => by cases hd)⟩
theorem TellsN.wide {α : Type} {m m' gf : Nat} {lb : Array Value} {encs : Nat → α → Array Value} {U : Nat → World → Prop} {N : Nat} (h : TellsN Fence.wide m P gf lb encs U N w) : TellsN Fence.wide m' P gf lb encs U N w :=
  fun l J Jx W a b c d e f g => callsIn_wide.2 (callsIn_wide.1 (h l J Jx W a b c d e (fun k x X hj hk => yield_wide0 (f k x X hj hk)) g))
theorem below_grown {X Y : World} (h : Below X.heap.size X Y) : X.grownBy Y none := ⟨h.os, h.tape, h.output, h.size, fun k hk _ => h.block k hk⟩
theorem own_on {β : Type} {B : Nat} {J : β → World → Prop} (hJ : OwnFrom B J) {s : β} {X Y : World} (h : J s X) (hb : Below X.heap.size X Y) : J s Y := hJ s X Y none h (below_grown hb) (fun r e => by cases e)
end
end Go.Proofs.Ytcfehddnccdejaa
