/- The program's log, in memory: where it lies, what its calls leave; the last one's name, Sync. The program's log: steps in turn; Sync; is the last one full. A range over a function whose iterator tells something of memory with what it hands over: the law for the loop. A range over a function whose body changes memory that the iterator reads: the law for the loop. The program's log: deletes of all that an iterator tells, up to the first error. The program's log: those of some names of which there is a file. Rows of numbers: append of any row to numbers of the call's own; cuts. 'append(v, x...)' of numbers onto numbers of the call's own, at a step of a region that draws its order. The program's log: a segment is laid, its steps; the library's Clone of numbers. The program's log: Frames, Next, Segments. -/
import Derived.Test.YtechgmohdabkpaaGreatDoorCka
import Derived.Test.YtechgmohdabkpaaGreatDoorCkc
import Derived.Test.YtechgmohdabkpaaGreatDoorCkd
import Derived.Test.YtechgmohdabkpaaGreatDoorCke
import Derived.BigQuiet
import Derived.Deep.QuietTactic
import Derived.RangeFuncNested
import Derived.RangeFuncLeaves
import Derived.RangeFuncBound
import Derived.RangeFuncCalls
import Derived.Shelf.Abstract
import Derived.OwnWalkIn
import Derived.TacticsInMore
import Derived.LoopNIn
import Derived.LoopIn
import Derived.Maps.AppendAt
import Derived.Laws.AppendOwnNone
import Derived.Laws.OwnMore
import Derived.Lib.SliceRun
namespace Go.Proofs.YtechgmohdabkpaaGreatDoor
section
set_option linter.unusedSimpArgs false
set_option linter.unusedVariables false
open Go.RowKit Go.Sort Go.Maps
open Crc Frm
open Sgn
attribute [local go_sem] Oper.semAt_some

/-- The cells of a log. -/
structure LogC (w : World) (lp dp size : Nat) (g : Lg) (sa : Option Addr) (sc : Nat) : Prop where
  blk : w.heap[lp]? = some (.cells #[.pointer (some ⟨dp, 0, none⟩), .int .i64 (size : Int), .slice sa g.segs.length sc, .int .i64 g.next] 79 (0, 0))
  row : Row w w.heap.size sa g.segs.length sc 1 (intsC g.segs)
  nil_ : sa = none → g.segs.length = 0 ∧ sc = 0
section
variable {w w' : World} {lp dp size : Nat} {g : Lg} {sa : Option Addr} {sc : Nat}
theorem LogC.c0 (h : LogC w lp dp size g sa sc) : w.cell? ⟨lp, 0, none⟩ = some (.pointer (some ⟨dp, 0, none⟩)) := (cell_of_row w lp 0 _ _ _ h.blk).trans rfl
theorem LogC.c1 (h : LogC w lp dp size g sa sc) : w.cell? ⟨lp, 1, none⟩ = some (.int .i64 (size : Int)) := (cell_of_row w lp 1 _ _ _ h.blk).trans rfl
theorem LogC.c2 (h : LogC w lp dp size g sa sc) : w.cell? ⟨lp, 2, none⟩ = some (.slice sa g.segs.length sc) := (cell_of_row w lp 2 _ _ _ h.blk).trans rfl
theorem LogC.c3 (h : LogC w lp dp size g sa sc) : w.cell? ⟨lp, 3, none⟩ = some (.int .i64 g.next) := (cell_of_row w lp 3 _ _ _ h.blk).trans rfl
theorem LogC.z (h : LogC w lp dp size g sa sc) (o : Nat) : w.frozen? ⟨lp, o, none⟩ = false := frozen_of_row w lp o _ _ h.blk
theorem LogC.lt (h : LogC w lp dp size g sa sc) : lp < w.heap.size := lt_of_heap h.blk
theorem LogC.on (h : LogC w lp dp size g sa sc) (hb : Below w.heap.size w w') : LogC w' lp dp size g sa sc := ⟨(hb.block lp h.lt).trans h.blk, (h.row.below hb (Nat.le_refl _)).more hb.size, h.nil_⟩
theorem LogC.but {O : Nat → Prop} (h : LogC w lp dp size g sa sc) (hb : But O w w') (hl : ¬ O lp) (hs : ∀ k o, sa = some ⟨k, o, none⟩ → ¬ O k) : LogC w' lp dp size g sa sc :=
  ⟨(hb.block lp h.lt hl).trans h.blk, h.row.but hb (fun _ => hs), h.nil_⟩
end
theorem getLastD_getD (l : List Int) : l.getLastD 0 = l.getD (l.length - 1) 0 := by
  rw [List.getLastD_eq_getLast?, List.getLast?_eq_getElem?, List.getD_eq_getElem?_getD]

/-- What the log holds: its disk's blocks, its own, its row's. -/
def lO (D : Nat → Prop) (lp : Nat) (sa : Option Addr) (k : Nat) : Prop := D k ∨ k = lp ∨ ∃ o, sa = some ⟨k, o, none⟩
/-- A log that lies behind all that was there in w0. -/
structure LK (w0 w : World) (dp lp size : Nat) (g : Lg) (t : St) (D : Nat → Prop) (sa : Option Addr) (sc : Nat) : Prop where
  dk : DK w0 w dp t D
  at_ : LogC w lp dp size g sa sc
  base : w0.heap.size ≤ lp
  own : ¬ D lp
  far : ∀ k o, sa = some ⟨k, o, none⟩ → ¬ D k ∧ k ≠ lp ∧ w0.heap.size ≤ k ∧ k < w.heap.size
def LMv (w0 w : World) (dp lp size : Nat) (O : Nat → Prop) (g : Lg) (t : St) (w' : World) : Prop :=
  ∃ D' sa' sc', LK w0 w' dp lp size g t D' sa' sc' ∧ But O w w' ∧ ∀ k, lO D' lp sa' k → O k ∨ w.heap.size ≤ k
section
variable {w0 w w' : World} {dp lp size : Nat} {g : Lg} {t t' : St} {D : Nat → Prop} {sa : Option Addr} {sc : Nat}
theorem LK.on (h : LK w0 w dp lp size g t D sa sc) (hb : Below w.heap.size w w') : LK w0 w' dp lp size g t D sa sc :=
  ⟨h.dk.on hb, h.at_.on hb, h.base, h.own, fun k o e => by obtain ⟨h1, h2, h3, h4⟩ := h.far k o e; exact ⟨h1, h2, h3, Nat.lt_of_lt_of_le h4 hb.size⟩⟩
theorem LK.lt (h : LK w0 w dp lp size g t D sa sc) : ∀ k, lO D lp sa k → k < w.heap.size := fun k hk => by
  rcases hk with h1 | rfl | ⟨o, h1⟩
  · exact h.dk.lt k h1
  · exact h.at_.lt
  · exact (h.far k o h1).2.2.2
theorem LK.ge (h : LK w0 w dp lp size g t D sa sc) : ∀ k, lO D lp sa k → w0.heap.size ≤ k := fun k hk => by
  rcases hk with h1 | rfl | ⟨o, h1⟩
  · exact h.dk.base k h1
  · exact h.base
  · exact (h.far k o h1).2.2.1
theorem LK.laid (h : LK w0 w dp lp size g t D sa sc) (hL : Laid w0) : Laid w := hL.on h.dk.below
/-- What a call of its disk leaves of the log. -/
theorem LK.but (h : LK w0 w dp lp size g t D sa sc) {D' : Nat → Prop} (hd : DK w0 w' dp t' D') (hb : But D w w') (hD : ∀ k, D' k → D k ∨ w.heap.size ≤ k) : LK w0 w' dp lp size g t' D' sa sc :=
  ⟨hd, h.at_.but hb h.own (fun k o e => (h.far k o e).1), h.base, fun ho => by rcases hD lp ho with h1 | h1; exact h.own h1; have := h.at_.lt; omega,
    fun k o e => by
      obtain ⟨h1, h2, h3, h4⟩ := h.far k o e
      exact ⟨fun ho => by rcases hD k ho with h5 | h5; exact h1 h5; omega, h2, h3, Nat.lt_of_lt_of_le h4 hb.size⟩⟩
theorem LK.mv (h : LK w0 w dp lp size g t D sa sc) (hm : Mv w0 w dp D t' w') : LMv w0 w dp lp size (lO D lp sa) g t' w' := by
  obtain ⟨D', h1, h2, h3⟩ := hm
  exact ⟨D', sa, sc, h.but h1 h2 h3, h2.more (fun k hk => .inl hk), fun k hk => by
    rcases hk with h4 | h4
    · rcases h3 k h4 with h5 | h5
      · exact .inl (.inl h5)
      · exact .inr h5
    · exact .inl (.inr h4)⟩
theorem LK.still (h : LK w0 w dp lp size g t D sa sc) (hb : Below w.heap.size w w') : LMv w0 w dp lp size (lO D lp sa) g t w' :=
  ⟨D, sa, sc, h.on hb, But.of_below hb, fun _ hk => .inl hk⟩
/-- Behind another step. -/
theorem LMv.then {w1 : World} {O O1 : Nat → Prop} (hb : But O w w1) (hO : ∀ k, O1 k → O k ∨ w.heap.size ≤ k) (h : LMv w0 w1 dp lp size O1 g t w') : LMv w0 w dp lp size O g t w' := by
  obtain ⟨D', sa', sc', h1, h2, h3⟩ := h
  exact ⟨D', sa', sc', h1, hb.trans h2 hO, fun k hk => by rcases h3 k hk with h4 | h4; exact hO k h4; exact .inr (Nat.le_trans hb.size h4)⟩
theorem LMv.on {w2 : World} {O : Nat → Prop} (h : LMv w0 w dp lp size O g t w') (hb : Below w'.heap.size w' w2) : LMv w0 w dp lp size O g t w2 := by
  obtain ⟨D', sa', sc', h1, h2, h3⟩ := h
  exact ⟨D', sa', sc', h1.on hb, h2.trans (But.of_below (O := fun _ => False) hb) (fun _ hf => hf.elim), h3⟩
end
/-- Names are short. -/
theorem nm_short (n : Int) : (nm n).length ≤ 11 := by
  unfold nm
  split
  · rename_i h
    have := itoa_len h.1 h.2
    simp [Lib.repeatL_length]
    omega
  · simp
theorem nmS_size (n : Int) : ByteArray.size ⟨(nm n).toArray⟩ ≤ 11 := nm_short n

set_option maxRecDepth 100000 in
set_option maxHeartbeats 3200000 in
/-- The last one's name. -/
theorem last_any {w : World} {lp dp size : Nat} {g : Lg} {sa : Option Addr} {sc : Nat} (h : LogC w lp dp size g sa sc) (hne : g.segs ≠ []) (hL : Laid w) :
    Calls Tryz.prog 73 #[.pointer (some ⟨lp, 0, none⟩)] w fun e w' => e = .returned (.string ⟨(lgLast g).toArray⟩) ∧ Below w.heap.size w w' := by
  have hlen : 0 < g.segs.length := List.length_pos_iff.2 hne
  obtain ⟨b, o, rfl, hb, hc⟩ := h.row.at_ hlen
  have hmx := h.row.le
  have hmx2 := h.row.max
  unfold maxLen at hmx2
  have c2 := h.c2
  obtain ⟨n, hn⟩ : ∃ n, n = g.segs.length := ⟨_, rfl⟩
  obtain ⟨m, hm⟩ : ∃ m, m = n - 1 := ⟨_, rfl⟩
  have hv : g.segs.getD m 0 = g.segs.getLastD 0 := by rw [getLastD_getD, hm, hn]
  have cm : w.cell? ⟨b, o + m, none⟩ = some (.int .i64 (g.segs.getLastD 0)) := (hc m (by omega)).trans (by show some (Value.int .i64 (g.segs.getD m 0)) = _; rw [hv])
  rw [← hn] at c2 hlen hmx
  have h0 : (0 : Int) ≤ (m : Int) := by omega
  have h1 : (m : Int) < (n : Int) := by omega
  have hw : IntKind.i64.wrap ((n : Int) - 1) = (m : Int) := by rw [IntKind.wrap_i64]; omega
  have HN := Lib.hid (fun x (hb : Below w.heap.size w x) => name_any (g.segs.getLastD 0) x (hL.on hb))
  have hlg : Hid (lgLast g = nm (g.segs.getLastD 0)) := rfl
  generalize g.segs.getLastD 0 = v at *
  clear hc hv hn hm h hL hne hb hmx hmx2
  go_enter Tryz.func73, Tryz.ntmps73
  go_wp2_with fail
  refine wp_region_held_drew (S := fun x => x.cell? ⟨lp, 2, none⟩ = some (.slice (some ⟨b, o, none⟩) n sc) ∧ x.cell? ⟨b, o + m, none⟩ = some (.int .i64 v) ∧ Below w.heap.size w x) (by kernel_rfl) ⟨c2, cm, Below.drew (Below.refl _ _)⟩ (fun hHeld => ?_)
  refine wpAnyH_take (i := 0) (v := ?_) rfl (by kernel_rfl) (by kernel_rfl) (by kernel_rfl) (fun _ _ _ h => h) (Or.inl ⟨by rfl, ?_⟩) (by assumption) ?_
  rotate_left
  · intro w hSw
    (try dsimp only at hSw)
    go_simp
    all_goals with_reducible rfl
  try simp only [Act.put, List.getElem_toArray, List.getElem_cons_succ, List.getElem_cons_zero, List.setIfInBounds_toArray, List.set_cons_zero, List.set_cons_succ]
  refine wpAnyH_take (i := 1) (v := ?_) rfl (by kernel_rfl) (by kernel_rfl) (by kernel_rfl) (fun _ _ _ h => h) (Or.inl ⟨by rfl, ?_⟩) (by assumption) ?_
  rotate_left
  · intro w hSw
    (try dsimp only at hSw)
    go_simp
    all_goals with_reducible rfl
  try simp only [Act.put, List.getElem_toArray, List.getElem_cons_succ, List.getElem_cons_zero, List.setIfInBounds_toArray, List.set_cons_zero, List.set_cons_succ]
  refine wpAnyH_take (i := 2) (v := ?_) rfl (by kernel_rfl) (by kernel_rfl) (by kernel_rfl) (fun _ _ _ h => h) (Or.inl ⟨by rfl, ?_⟩) (by assumption) ?_
  rotate_left
  · intro w hSw
    (try dsimp only at hSw)
    go_simp
    all_goals with_reducible rfl
  try simp only [Act.put, List.getElem_toArray, List.getElem_cons_succ, List.getElem_cons_zero, List.setIfInBounds_toArray, List.set_cons_zero, List.set_cons_succ]
  refine wpAnyH_take (i := 3) (v := ?_) rfl (by kernel_rfl) (by kernel_rfl) (by kernel_rfl) (fun _ _ _ h => h) (Or.inl ⟨by rfl, ?_⟩) (by assumption) ?_
  rotate_left
  · intro w hSw
    (try dsimp only at hSw)
    go_simp
    all_goals with_reducible rfl
  try simp only [Act.put, List.getElem_toArray, List.getElem_cons_succ, List.getElem_cons_zero, List.setIfInBounds_toArray, List.set_cons_zero, List.set_cons_succ]
  refine wpAnyH_take (i := 4) (v := ?_) rfl (by kernel_rfl) (by kernel_rfl) (by kernel_rfl) (fun _ _ _ h => h) (Or.inl ⟨by rfl, ?_⟩) (by assumption) ?_
  rotate_left
  · intro w hSw
    (try dsimp only at hSw)
    go_simp
    all_goals with_reducible rfl
  try simp only [Act.put, List.getElem_toArray, List.getElem_cons_succ, List.getElem_cons_zero, List.setIfInBounds_toArray, List.set_cons_zero, List.set_cons_succ]
  refine wpAnyH_take (i := 5) (v := ?_) rfl (by kernel_rfl) (by kernel_rfl) (by kernel_rfl) (fun _ _ _ h => h) (Or.inl ⟨by rfl, ?_⟩) (by assumption) ?_
  rotate_left
  · intro w hSw
    (try dsimp only at hSw)
    go_simp
    all_goals with_reducible rfl
  try simp only [Act.put, List.getElem_toArray, List.getElem_cons_succ, List.getElem_cons_zero, List.setIfInBounds_toArray, List.set_cons_zero, List.set_cons_succ]
  refine wpAnyH_take (i := 6) (v := ?_) rfl (by kernel_rfl) (by kernel_rfl) (by kernel_rfl) (fun _ _ _ h => h) (Or.inl ⟨by rfl, ?_⟩) (by assumption) ?_
  rotate_left
  · intro w hSw
    (try dsimp only at hSw)
    go_simp
    all_goals with_reducible rfl
  try simp only [Act.put, List.getElem_toArray, List.getElem_cons_succ, List.getElem_cons_zero, List.setIfInBounds_toArray, List.set_cons_zero, List.set_cons_succ]
  refine wpAnyH_take (i := 7) (v := ?_) rfl (by kernel_rfl) (by kernel_rfl) (by kernel_rfl) (fun _ _ _ h => h) (Or.inl ⟨by rfl, ?_⟩) (by assumption) ?_
  rotate_left
  · intro w hSw
    (try dsimp only at hSw)
    go_simp
    all_goals with_reducible rfl
  try simp only [Act.put, List.getElem_toArray, List.getElem_cons_succ, List.getElem_cons_zero, List.setIfInBounds_toArray, List.set_cons_zero, List.set_cons_succ]
  refine wpAnyH_take (i := 8) (v := ?_) rfl (by kernel_rfl) (by kernel_rfl) (by kernel_rfl) (fun _ _ _ h => h) (Or.inl ⟨by rfl, ?_⟩) (by assumption) ?_
  rotate_left
  · intro w hSw
    (try dsimp only at hSw)
    go_simp
    all_goals with_reducible rfl
  try simp only [Act.put, List.getElem_toArray, List.getElem_cons_succ, List.getElem_cons_zero, List.setIfInBounds_toArray, List.set_cons_zero, List.set_cons_succ]
  refine wpAnyH_take (i := 9) (v := ?_) rfl (by kernel_rfl) (by kernel_rfl) (by kernel_rfl) (fun _ _ _ h => h) (Or.inl ⟨by rfl, ?_⟩) (by assumption) ?_
  rotate_left
  · intro w hSw
    (try dsimp only at hSw)
    go_simp
    all_goals with_reducible rfl
  try simp only [Act.put, List.getElem_toArray, List.getElem_cons_succ, List.getElem_cons_zero, List.setIfInBounds_toArray, List.set_cons_zero, List.set_cons_succ]
  refine wpAnyH_take (i := 10) (v := ?_) rfl (by kernel_rfl) (by kernel_rfl) (by kernel_rfl) (fun _ _ _ h => h) (Or.inl ⟨by rfl, ?_⟩) (by assumption) ?_
  rotate_left
  · intro w hSw
    (try dsimp only at hSw)
    go_simp
    all_goals with_reducible rfl
  try simp only [Act.put, List.getElem_toArray, List.getElem_cons_succ, List.getElem_cons_zero, List.setIfInBounds_toArray, List.set_cons_zero, List.set_cons_succ]
  refine wpAnyH_take (i := 11) (v := ?_) rfl (by kernel_rfl) (by kernel_rfl) (by kernel_rfl) (fun _ _ _ h => h) (Or.inl ⟨by rfl, ?_⟩) (by assumption) ?_
  rotate_left
  · intro w hSw
    (try dsimp only at hSw)
    go_simp
    all_goals with_reducible rfl
  try simp only [Act.put, List.getElem_toArray, List.getElem_cons_succ, List.getElem_cons_zero, List.setIfInBounds_toArray, List.set_cons_zero, List.set_cons_succ]
  refine wpAnyH_ready (rs := [12]) (by kernel_rfl) (by simp) ?_
  refine AllReadyH.cons rfl (fun K hK => ?_) AllReadyH.nil
  rw [if_pos (by rfl)]
  go_simp
  go_at_call 55
  refine (HN.out _ (Below.drew (Below.refl _ _))).mono ?_
  rintro e w2 ⟨rfl, hb2⟩
  have B2 : Below w.heap.size w w2 := below_drew_of hb2
  clear hb2
  refine hK.out _ _ ?_ (fun hHeld => ?_)
  · exact ⟨(B2.cell (p := ⟨lp, 2, none⟩) (block_lt_of_cell c2)).trans c2, (B2.cell (p := ⟨b, o + m, none⟩) (block_lt_of_cell cm)).trans cm, B2⟩
  clear hK K
  try simp only [Act.put, List.getElem_toArray, List.getElem_cons_succ, List.getElem_cons_zero, List.setIfInBounds_toArray, List.set_cons_zero, List.set_cons_succ]
  refine wpAnyH_take (i := 13) (v := ?_) rfl (by kernel_rfl) (by kernel_rfl) (by kernel_rfl) (fun _ _ _ h => h) (Or.inl ⟨by rfl, ?_⟩) (by assumption) ?_
  rotate_left
  · intro w hSw
    (try dsimp only at hSw)
    go_simp
    all_goals with_reducible rfl
  try simp only [Act.put, List.getElem_toArray, List.getElem_cons_succ, List.getElem_cons_zero, List.setIfInBounds_toArray, List.set_cons_zero, List.set_cons_succ]
  refine wpAnyH_done (by kernel_rfl) ?_ _
  go_wp2
  go_ret
  exact ⟨by rw [hlg.out]; rfl, B2⟩
end
section
set_option linter.unusedSimpArgs false
set_option linter.unusedVariables false
open Go.RowKit Go.Sort Go.Maps
open Crc Frm
open Sgn
attribute [local go_sem] Oper.semAt_some

set_option maxRecDepth 100000 in
set_option maxHeartbeats 1600000 in
/-- Steps in turn: what each needs and leaves, and what is told at the first error. -/
theorem lturn_any (n : Nat) (fs : Nat → FuncId) (ps cs : Nat → Array Value) (g : Nat) (w : World) (J : Nat → World → Prop) (R : Int → World → Prop) (hn : n ≤ 1000)
    (hcell : ∀ k w', k < n → J k w' → w'.cell? ⟨g, k, none⟩ = some (.func (.func (fs k)) (ps k) (cs k)))
    (hc : ∀ k x, k < n → (callFunc (fs k) (ps k ++ cs k)).run Tryz.prog x = .ok (.enter (fs k) (ps k ++ cs k)) x)
    (hcall : ∀ k w', k < n → J k w' → Calls Tryz.prog (fs k) (ps k ++ cs k) w' fun e w'' => ∃ x, e = .returned (.int .i64 x) ∧ (x = 0 → J (k + 1) w'') ∧ (x ≠ 0 → R x w''))
    (hend : ∀ w', J n w' → R 0 w') (h0 : J 0 w) :
    Calls Tryz.prog 32 #[.slice (some ⟨g, 0, none⟩) n n] w fun e w' => ∃ x, e = .returned (.int .i64 x) ∧ R x w' := by
  have HC := Lib.hid hcell
  have HL := Lib.hid hcall
  have HE := Lib.hid hend
  have HF := Lib.hid hc
  have H0 := Lib.hid h0
  clear hcell hc hcall hend h0
  go_enter Tryz.func32, Tryz.ntmps32
  go_wp2_with fail
  go_loopw [4, 5, 8] (fun _ _ i wr => ∃ k : Nat, k ≤ n ∧ i = .int .i64 (k : Int) ∧ J k wr) (fun _ _ i _ => n - (intOf i).toNat)
  case atStart => exact ⟨0, Nat.zero_le _, rfl, H0.out⟩
  case round =>
    obtain ⟨k, hk, rfl, hj⟩ := hrel
    by_cases hlt : k < n
    · have c0 := HC.out k wr hlt hj
      have cf := fun x => HF.out k x hlt
      have CL := Lib.hid (HL.out k wr hlt hj)
      have c1 : wr.cell? ⟨g, 0 + k, none⟩ = some (.func (.func (fs k)) (ps k) (cs k)) := by rw [Nat.zero_add]; exact c0
      clear hj
      generalize fs k = fk at *
      generalize ps k = pk at *
      generalize cs k = ck at *
      go_wp2_with fail
      refine CL.out.mono ?_
      rintro e w1 ⟨x, rfl, hx0, hx1⟩
      have X0 := Lib.hid hx0
      have X1 := Lib.hid hx1
      clear hx0 hx1 CL c0 c1 cf
      by_cases hx : x = 0
      · subst hx
        go_wp2
        go_roundw
        case rel => exact ⟨k + 1, by omega, by go_num, X0.out (by trivial)⟩
        case measure => simp [intOf]; omega
      · go_wp2
        go_ret
        exact ⟨x, rfl, X1.out hx⟩
    · have hkn : k = n := by omega
      subst hkn
      have HJ := Lib.hid hj
      clear hj
      go_wp2
      go_ret
      exact ⟨0, rfl, HE.out _ HJ.out⟩

theorem below_drews {B : Nat} {a w : World} {n : Nat} (h : Below B a w) : Below B a (w.drewN n) := ⟨h.os, h.tape, h.output, h.size, h.block⟩
/-- A file's bytes are no more than the room. -/
theorem bytes_le {t : St} (h : Good t.D t.room) (s : List UInt8) : (t.bytes s).length ≤ 1048576 := by
  unfold St.bytes
  cases hf : fat t.D s with
  | none => simp [Fl.zero]
  | some f => have := (h.at_ hf).2.2.2; have := h.tot_; have := h.room_; simp; omega
section
variable {w0 w : World} {dp lp size : Nat} {g : Lg} {t : St} {D : Nat → Prop} {sa : Option Addr} {sc : Nat}
set_option maxRecDepth 100000 in
set_option maxHeartbeats 3200000 in
/-- Sync. -/
theorem lsync_any (h : LK w0 w dp lp size g t D sa sc) (hne : g.segs ≠ []) (hL : Laid w0) :
    Calls Tryz.prog 29 #[.pointer (some ⟨lp, 0, none⟩)] w fun e w' => e = .returned (.int .i64 (lgSync g t).1) ∧ LMv w0 w dp lp size (lO D lp sa) g (lgSync g t).2 w' := by
  have c0 := h.at_.c0
  have hlt := h.at_.lt
  have hown := h.own
  have LA := Lib.hid (fun x (hb : Below w.heap.size w x) => last_any (h.at_.on hb) hne ((h.laid hL).on hb))
  have H := Lib.hid h
  have hsy : Hid (lgSync g t = t.sync (lgLast g)) := rfl
  have hsz := nmS_size (g.segs.getLastD 0)
  change ByteArray.size ⟨(lgLast g).toArray⟩ ≤ 11 at hsz
  clear h hL hne
  go_enter Tryz.func29, Tryz.ntmps29
  go_wp2_with fail
  refine wp_region_held_drew (S := fun x => x.cell? ⟨lp, 0, none⟩ = some (.pointer (some ⟨dp, 0, none⟩))) (by kernel_rfl) c0 (fun hHeld => ?_)
  refine wpAnyH_take (i := 0) (v := ?_) rfl (by kernel_rfl) (by kernel_rfl) (by kernel_rfl) (fun _ _ _ h => h) (Or.inl ⟨by rfl, ?_⟩) (by assumption) ?_
  rotate_left
  · intro w hSw
    (try dsimp only at hSw)
    go_simp
    all_goals with_reducible rfl
  try simp only [Act.put, List.getElem_toArray, List.getElem_cons_succ, List.getElem_cons_zero, List.setIfInBounds_toArray, List.set_cons_zero, List.set_cons_succ]
  refine wpAnyH_take (i := 1) (v := ?_) rfl (by kernel_rfl) (by kernel_rfl) (by kernel_rfl) (fun _ _ _ h => h) (Or.inl ⟨by rfl, ?_⟩) (by assumption) ?_
  rotate_left
  · intro w hSw
    (try dsimp only at hSw)
    go_simp
    all_goals with_reducible rfl
  try simp only [Act.put, List.getElem_toArray, List.getElem_cons_succ, List.getElem_cons_zero, List.setIfInBounds_toArray, List.set_cons_zero, List.set_cons_succ]
  refine wpAnyH_take (i := 2) (v := ?_) rfl (by kernel_rfl) (by kernel_rfl) (by kernel_rfl) (fun _ _ _ h => h) (Or.inl ⟨by rfl, ?_⟩) (by assumption) ?_
  rotate_left
  · intro w hSw
    (try dsimp only at hSw)
    go_simp
    all_goals with_reducible rfl
  try simp only [Act.put, List.getElem_toArray, List.getElem_cons_succ, List.getElem_cons_zero, List.setIfInBounds_toArray, List.set_cons_zero, List.set_cons_succ]
  refine wpAnyH_take (i := 3) (v := ?_) rfl (by kernel_rfl) (by kernel_rfl) (by kernel_rfl) (fun _ _ _ h => h) (Or.inl ⟨by rfl, ?_⟩) (by assumption) ?_
  rotate_left
  · intro w hSw
    (try dsimp only at hSw)
    go_simp
    all_goals with_reducible rfl
  try simp only [Act.put, List.getElem_toArray, List.getElem_cons_succ, List.getElem_cons_zero, List.setIfInBounds_toArray, List.set_cons_zero, List.set_cons_succ]
  refine wpAnyH_take (i := 4) (v := ?_) rfl (by kernel_rfl) (by kernel_rfl) (by kernel_rfl) (fun _ _ _ h => h) (Or.inl ⟨by rfl, ?_⟩) (by assumption) ?_
  rotate_left
  · intro w hSw
    (try dsimp only at hSw)
    go_simp
    all_goals with_reducible rfl
  try simp only [Act.put, List.getElem_toArray, List.getElem_cons_succ, List.getElem_cons_zero, List.setIfInBounds_toArray, List.set_cons_zero, List.set_cons_succ]
  refine wpAnyH_ready (rs := [5]) (by kernel_rfl) (by simp) ?_
  refine AllReadyH.cons rfl (fun K hK => ?_) AllReadyH.nil
  rw [if_pos (by rfl)]
  go_simp
  go_at_call 73
  refine (LA.out _ (Below.drew (Below.refl _ _))).mono ?_
  rintro e w2 ⟨rfl, hb2⟩
  have B2 : Below w.heap.size w w2 := below_drew_of hb2
  clear hb2
  have c02 := (B2.cell (p := ⟨lp, 0, none⟩) hlt).trans c0
  refine hK.out _ _ ?_ (fun hHeld => ?_)
  · exact c02
  clear hK K
  try simp only [Act.put, List.getElem_toArray, List.getElem_cons_succ, List.getElem_cons_zero, List.setIfInBounds_toArray, List.set_cons_zero, List.set_cons_succ]
  refine wpAnyH_ready (rs := [6]) (by kernel_rfl) (by simp) ?_
  refine AllReadyH.cons rfl (fun K hK => ?_) AllReadyH.nil
  rw [if_pos (by rfl)]
  go_simp
  go_at_call 60
  refine ((H.out.on B2).dk.sync ⟨(lgLast g).toArray⟩ (by omega)).mono ?_
  rintro e w3 ⟨rfl, hm⟩
  have hm2 := (H.out.on B2).mv hm
  obtain ⟨D3, k3, b3, d3⟩ := hm
  refine hK.out _ _ ?_ (fun hHeld => ?_)
  · exact (b3.cell (b := lp) (o := 0) (Nat.lt_of_lt_of_le hlt B2.size) hown).trans c02
  clear hK K
  try simp only [Act.put, List.getElem_toArray, List.getElem_cons_succ, List.getElem_cons_zero, List.setIfInBounds_toArray, List.set_cons_zero, List.set_cons_succ]
  refine wpAnyH_take (i := 7) (v := ?_) rfl (by kernel_rfl) (by kernel_rfl) (by kernel_rfl) (fun _ _ _ h => h) (Or.inl ⟨by rfl, ?_⟩) (by assumption) ?_
  rotate_left
  · intro w hSw
    (try dsimp only at hSw)
    go_simp
    all_goals with_reducible rfl
  try simp only [Act.put, List.getElem_toArray, List.getElem_cons_succ, List.getElem_cons_zero, List.setIfInBounds_toArray, List.set_cons_zero, List.set_cons_succ]
  refine wpAnyH_done (by kernel_rfl) ?_ _
  go_wp2
  go_ret
  exact ⟨by rw [hsy.out]; rfl, by rw [hsy.out]; exact LMv.then (But.of_below B2) (fun _ hk => .inl hk) hm2⟩

set_option linter.unusedSimpArgs false in
set_option maxRecDepth 100000 in
set_option maxHeartbeats 3200000 in
/-- Is the last one full? -/
theorem isFull_any (h : LK w0 w dp lp size g t D sa sc) (hne : g.segs ≠ []) (hL : Laid w0) (more : Nat) (hmore : more ≤ 1000000000) (hsize : size ≤ 1000000000) :
    Calls Tryz.prog 125 #[.pointer (some ⟨lp, 0, none⟩), .int .i64 (more : Int)] w fun e w' => e = .returned (.bool (lgFull size g t more)) ∧ Below w.heap.size w w' := by
  have c0 := h.at_.c0
  have hlt := h.at_.lt
  have hown := h.own
  have LA := Lib.hid (fun x (hb : Below w.heap.size w x) => last_any (h.at_.on hb) hne ((h.laid hL).on hb))
  have H := Lib.hid h
  have hfu : Hid (lgFull size g t more = (decide (g.segs.getLastD 0 < g.next) && decide (size < (t.bytes (lgLast g)).length + more))) := rfl
  have hsz := nmS_size (g.segs.getLastD 0)
  change ByteArray.size ⟨(lgLast g).toArray⟩ ≤ 11 at hsz
  have hlen : 0 < g.segs.length := List.length_pos_iff.2 hne
  have hby := Lib.hid (fat_byte h.dk.good (lgLast g))
  have hbl := bytes_le h.dk.good (lgLast g)
  clear h hL hne
  go_enter Tryz.func125, Tryz.ntmps125
  go_wp2_with fail
  refine wp_region_held_drew (S := fun x => x.cell? ⟨lp, 0, none⟩ = some (.pointer (some ⟨dp, 0, none⟩))) (by kernel_rfl) c0 (fun hHeld => ?_)
  refine wpAnyH_take (i := 0) (v := ?_) rfl (by kernel_rfl) (by kernel_rfl) (by kernel_rfl) (fun _ _ _ h => h) (Or.inl ⟨by rfl, ?_⟩) (by assumption) ?_
  rotate_left
  · intro w hSw
    (try dsimp only at hSw)
    go_simp
    all_goals with_reducible rfl
  try simp only [Act.put, List.getElem_toArray, List.getElem_cons_succ, List.getElem_cons_zero, List.setIfInBounds_toArray, List.set_cons_zero, List.set_cons_succ]
  refine wpAnyH_take (i := 1) (v := ?_) rfl (by kernel_rfl) (by kernel_rfl) (by kernel_rfl) (fun _ _ _ h => h) (Or.inl ⟨by rfl, ?_⟩) (by assumption) ?_
  rotate_left
  · intro w hSw
    (try dsimp only at hSw)
    go_simp
    all_goals with_reducible rfl
  try simp only [Act.put, List.getElem_toArray, List.getElem_cons_succ, List.getElem_cons_zero, List.setIfInBounds_toArray, List.set_cons_zero, List.set_cons_succ]
  refine wpAnyH_take (i := 2) (v := ?_) rfl (by kernel_rfl) (by kernel_rfl) (by kernel_rfl) (fun _ _ _ h => h) (Or.inl ⟨by rfl, ?_⟩) (by assumption) ?_
  rotate_left
  · intro w hSw
    (try dsimp only at hSw)
    go_simp
    all_goals with_reducible rfl
  try simp only [Act.put, List.getElem_toArray, List.getElem_cons_succ, List.getElem_cons_zero, List.setIfInBounds_toArray, List.set_cons_zero, List.set_cons_succ]
  refine wpAnyH_take (i := 3) (v := ?_) rfl (by kernel_rfl) (by kernel_rfl) (by kernel_rfl) (fun _ _ _ h => h) (Or.inl ⟨by rfl, ?_⟩) (by assumption) ?_
  rotate_left
  · intro w hSw
    (try dsimp only at hSw)
    go_simp
    all_goals with_reducible rfl
  try simp only [Act.put, List.getElem_toArray, List.getElem_cons_succ, List.getElem_cons_zero, List.setIfInBounds_toArray, List.set_cons_zero, List.set_cons_succ]
  refine wpAnyH_take (i := 4) (v := ?_) rfl (by kernel_rfl) (by kernel_rfl) (by kernel_rfl) (fun _ _ _ h => h) (Or.inl ⟨by rfl, ?_⟩) (by assumption) ?_
  rotate_left
  · intro w hSw
    (try dsimp only at hSw)
    go_simp
    all_goals with_reducible rfl
  try simp only [Act.put, List.getElem_toArray, List.getElem_cons_succ, List.getElem_cons_zero, List.setIfInBounds_toArray, List.set_cons_zero, List.set_cons_succ]
  refine wpAnyH_ready (rs := [5]) (by kernel_rfl) (by simp) ?_
  refine AllReadyH.cons rfl (fun K hK => ?_) AllReadyH.nil
  rw [if_pos (by rfl)]
  go_simp
  go_at_call 73
  refine (LA.out _ (Below.drew (Below.refl _ _))).mono ?_
  rintro e w2 ⟨rfl, hb2⟩
  have B2 : Below w.heap.size w w2 := below_drew_of hb2
  clear hb2
  have c02 := (B2.cell (p := ⟨lp, 0, none⟩) hlt).trans c0
  refine hK.out _ _ ?_ (fun hHeld => ?_)
  · exact c02
  clear hK K
  try simp only [Act.put, List.getElem_toArray, List.getElem_cons_succ, List.getElem_cons_zero, List.setIfInBounds_toArray, List.set_cons_zero, List.set_cons_succ]
  refine wpAnyH_ready (rs := [6]) (by kernel_rfl) (by simp) ?_
  refine AllReadyH.cons rfl (fun K hK => ?_) AllReadyH.nil
  rw [if_pos (by rfl)]
  go_simp
  go_at_call 51
  refine ((H.out.on B2).dk.read ⟨(lgLast g).toArray⟩ (by unfold maxLen; omega)).mono ?_
  rintro e w3 hN
  change NewBytes w2 (t.bytes (lgLast g)) (fat t.D (lgLast g)).isSome _ _ at hN
  change Hid (∀ c ∈ t.bytes (lgLast g), c < 256) at hby
  generalize t.bytes (lgLast g) = bs at *
  generalize (fat t.D (lgLast g)).isSome = is at *
  obtain ⟨a3, n3, rfl, s3, _, b3⟩ := NewBytes.out (H.out.on B2).dk hN hby.out
  have B3 := B2.trans (b3.mono B2.size)
  have hmx := s3.max
  have hle := s3.le
  unfold maxLen at hmx
  clear s3 hN
  generalize bs.length = q at *
  refine hK.out _ _ ?_ (fun hHeld => ?_)
  · exact (b3.cell (p := ⟨lp, 0, none⟩) (Nat.lt_of_lt_of_le hlt B2.size)).trans c02
  clear hK K
  try simp only [Act.put, List.getElem_toArray, List.getElem_cons_succ, List.getElem_cons_zero, List.setIfInBounds_toArray, List.set_cons_zero, List.set_cons_succ]
  refine wpAnyH_take (i := 7) (v := ?_) rfl (by kernel_rfl) (by kernel_rfl) (by kernel_rfl) (fun _ _ _ h => h) (Or.inl ⟨by rfl, ?_⟩) (by assumption) ?_
  rotate_left
  · intro w hSw
    (try dsimp only at hSw)
    go_simp
    all_goals with_reducible rfl
  try simp only [Act.put, List.getElem_toArray, List.getElem_cons_succ, List.getElem_cons_zero, List.setIfInBounds_toArray, List.set_cons_zero, List.set_cons_succ]
  refine wpAnyH_take (i := 8) (v := ?_) rfl (by kernel_rfl) (by kernel_rfl) (by kernel_rfl) (fun _ _ _ h => h) (Or.inl ⟨by rfl, ?_⟩) (by assumption) ?_
  rotate_left
  · intro w hSw
    (try dsimp only at hSw)
    go_simp
    all_goals with_reducible rfl
  try simp only [Act.put, List.getElem_toArray, List.getElem_cons_succ, List.getElem_cons_zero, List.setIfInBounds_toArray, List.set_cons_zero, List.set_cons_succ]
  refine wpAnyH_take (i := 9) (v := ?_) rfl (by kernel_rfl) (by kernel_rfl) (by kernel_rfl) (fun _ _ _ h => h) (Or.inl ⟨by rfl, ?_⟩) (by assumption) ?_
  rotate_left
  · intro w hSw
    (try dsimp only at hSw)
    go_simp
    all_goals with_reducible rfl
  try simp only [Act.put, List.getElem_toArray, List.getElem_cons_succ, List.getElem_cons_zero, List.setIfInBounds_toArray, List.set_cons_zero, List.set_cons_succ]
  refine wpAnyH_take (i := 10) (v := ?_) rfl (by kernel_rfl) (by kernel_rfl) (by kernel_rfl) (fun _ _ _ h => h) (Or.inl ⟨by rfl, ?_⟩) (by assumption) ?_
  rotate_left
  · intro w hSw
    (try dsimp only at hSw)
    go_simp
    all_goals with_reducible rfl
  try simp only [Act.put, List.getElem_toArray, List.getElem_cons_succ, List.getElem_cons_zero, List.setIfInBounds_toArray, List.set_cons_zero, List.set_cons_succ]
  refine wpAnyH_take (i := 11) (v := ?_) rfl (by kernel_rfl) (by kernel_rfl) (by kernel_rfl) (fun _ _ _ h => h) (Or.inl ⟨by rfl, ?_⟩) (by assumption) ?_
  rotate_left
  · intro w hSw
    (try dsimp only at hSw)
    go_simp
    all_goals with_reducible rfl
  try simp only [Act.put, List.getElem_toArray, List.getElem_cons_succ, List.getElem_cons_zero, List.setIfInBounds_toArray, List.set_cons_zero, List.set_cons_succ]
  refine wpAnyH_done (by kernel_rfl) ?_ _
  have H3 := (H.out.on B3).at_
  have d1 := H3.c1
  have d2 := H3.c2
  have d3 := H3.c3
  obtain ⟨b, o, rfl, hb, hc⟩ := H3.row.at_ hlen
  have hrm := H3.row.max
  have hrl := H3.row.le
  unfold maxLen at hrm
  obtain ⟨n, hn⟩ : ∃ n, n = g.segs.length := ⟨_, rfl⟩
  obtain ⟨m, hm⟩ : ∃ m, m = n - 1 := ⟨_, rfl⟩
  have cm : w3.cell? ⟨b, o + m, none⟩ = some (.int .i64 (g.segs.getLastD 0)) := (hc m (by omega)).trans (by show some (Value.int .i64 (g.segs.getD m 0)) = _; rw [getLastD_getD, hm, hn])
  rw [← hn] at d2 hlen hrl
  have h0 : (0 : Int) ≤ (m : Int) := by omega
  have h1 : (m : Int) < (n : Int) := by omega
  have hw : IntKind.i64.wrap ((n : Int) - 1) = (m : Int) := by rw [IntKind.wrap_i64]; omega
  have hwq : IntKind.i64.wrap ((q : Int) + (more : Int)) = (q : Int) + (more : Int) := by rw [IntKind.wrap_i64]; omega
  generalize g.segs.getLastD 0 = v at *
  clear H3 hc hb hn hm hrm hrl c0 c02 hlt hown LA hHeld b3 hsz hlen hmx hle
  by_cases hv : v < g.next
  · have e1 : decide (v < g.next) = true := by simpa using hv
    by_cases hs : size < q + more
    · have hs' : (size : Int) < (q : Int) + (more : Int) := by omega
      have e2 : decide ((size : Int) < (q : Int) + (more : Int)) = true := by simpa using hs'
      have hres : Hid (lgFull size g t more = true) := by show _ = _; rw [hfu.out, e1]; simpa using hs
      go_wp2_with fail
      go_quiet (fail)
      go_wp2
      go_ret
      exact ⟨by rw [hres.out]; rfl, below_drews B3⟩
    · have hs' : (q : Int) + (more : Int) ≤ (size : Int) := by omega
      have e2 : decide ((size : Int) < (q : Int) + (more : Int)) = false := by simpa using hs'
      have hres : Hid (lgFull size g t more = false) := by show _ = _; rw [hfu.out, e1]; simpa using hs
      go_wp2_with fail
      go_quiet (fail)
      go_wp2
      go_ret
      exact ⟨by rw [hres.out]; rfl, below_drews B3⟩
  · have hv' : g.next ≤ v := by omega
    have e1 : decide (v < g.next) = false := by simpa using hv
    have hres : Hid (lgFull size g t more = false) := by show _ = _; rw [hfu.out, e1]; rfl
    go_wp2_with fail
    go_quiet (fail)
    go_wp2
    go_ret
    exact ⟨by rw [hres.out]; rfl, below_drews B3⟩
end
end
section
set_option linter.unusedSimpArgs false
set_option linter.unusedVariables false
open Go.RowKit
section
variable {F : Fence} {n : Nat} {P : Program} {w : World}

/-- The loop's two blocks: its record, and the block for the rounds' deferred calls. -/
structure LoopAt (D : Nat) (r : Loop) (W : World) : Prop where
  own : W.heap[D + 1]? = some (.loop r)
  shut : W.heap[D]? = some (.deferred (some []))
theorem LoopAt.abides {D B : Nat} {r : Loop} {X Y : World} {row : Option Nat} (h : LoopAt D r X) (hg : X.grownBy Y row) (hr : ∀ k, row = some k → B ≤ k ∧ ∃ o : Obj, X.heap[k]? = some o ∧ o.isWalk = true) : LoopAt D r Y :=
  ⟨(grownBy_keeps hg (fun k e => (hr k e).2) h.own rfl).trans h.own, (grownBy_keeps hg (fun k e => (hr k e).2) h.shut rfl).trans h.shut⟩
theorem LoopAt.kept {D : Nat} {r : Loop} {X Y : World} (h : LoopAt D r X) (hk : KeepsFrom D X Y) : LoopAt D r Y := ⟨hk.same _ _ (by omega) h.own rfl, hk.same _ _ (Nat.le_refl _) h.shut rfl⟩
theorem LoopAt.lt {D : Nat} {r : Loop} {X : World} (h : LoopAt D r X) : D + 1 < X.heap.size := (Array.getElem?_eq_some_iff.1 h.own).1
theorem LoopAt.put {D : Nat} {r : Loop} {X : World} (h : LoopAt D r X) (r' : Loop) : LoopAt D r' (X.putObj (D + 1) (.loop r')) := ⟨World.putObj_heap_same h.lt, (World.putObj_heap_other (by omega)).trans h.shut⟩

/-- What the iterator owes: with each x that it hands over it tells 'M x' of the world in which it does. -/
def Tells {α : Type} (F : Fence) (n : Nat) (P : Program) (gf : Nat) (lb : Array Value) (encs : α → Array Value) (M : α → World → Prop) (Kp : World → World → Prop) (S Sp : List α → Prop) (N : Nat) (w : World) : Prop :=
  ∀ (l : Nat) (J Jx : List α → World → Prop) (W : World), Below w.heap.size w W → AbidesFrom W.heap.size J → AbidesFrom W.heap.size Jx →
    (∀ pre x X, J pre X → M x X → pre.length < N → YieldAt F (n - 1) P l (encs x) X fun e Y => (e = .returned (.bool true) ∧ J (pre ++ [x]) Y ∧ Kp X Y) ∨ (e = .returned (.bool false) ∧ Jx (pre ++ [x]) Y)) → J [] W →
    CallsIn F n P gf (#[.func (.yield l) #[] #[]] ++ lb) W fun e Y => (∃ v, e = .returned v) ∧ ((∃ xs, S xs ∧ J xs Y) ∨ (∃ pre, Sp pre ∧ Jx pre Y))

theorem range_tells {α : Type} {g : Operand} {ps : Array Tmp} {assign body : Code} {Q : Exit → Act → World → Prop} {a : Act}
    (hro : F.round = none) (h1 : 1 ≤ n) {gf : Nat} {lb : Array Value} (hg : a.eval g = .func (.func gf) #[] lb) (hF : F.fn gf) (eg : ∀ args w, (callFunc gf args).run P w = .ok (.enter gf args) w)
    {encs : α → Array Value} {M : α → World → Prop} {Kp : World → World → Prop} {S Sp : List α → Prop} {N : Nat} (hseq : Tells F (n - 1) P gf lb encs M Kp S Sp N w)
    (hKt : ∀ {X Y Z : World}, Kp X Y → Kp Y Z → Kp X Z) (hKb : ∀ (W : World) (l : Nat) (o o' : Obj), w.heap.size ≤ l → W.heap[l]? = some o → o.isCells = false → o.isWalk = false → Kp W (W.putObj l o')) (hps : ∀ x, (encs x).size = ps.size)
    (I : List α → World → Prop) (Ix : Code → List α → World → Prop) (hI : OwnFrom w.heap.size I) (hIx : ∀ c, OwnFrom w.heap.size (Ix c)) (h0 : I [] w) (Ax : α → Act → World → Prop) (hAx : ∀ x a', OwnFrom w.heap.size (fun (_ : Unit) W => Ax x a' W))
    (hassign : ∀ (l : Nat) (pre : List α) (x : α) (W : World) (K : Act → World → Prop), I pre W → M x W → (∀ a' W', KeepsFrom w.heap.size W W' → Kp W W' → I pre W' → Ax x a' W' → K a' W') →
      assign.wpIn (F.inRound l) (n - 1 - 1) P (Exit.then K (fun _ _ _ => False)) { tmps := (ps.zip (encs x)).foldl (fun t (p, v) => t.setIfInBounds p v) a.tmps, defers := [] } W)
    (hbody : ∀ (l : Nat) (pre : List α) (x : α) (a' : Act) (W : World), I pre W → Ax x a' W → pre.length < N → body.wpIn (F.inRound l) (n - 1 - 1) P (ownPostG w.heap.size Kp I Ix (pre ++ [x]) W) a' W)
    (hdone : ∀ (D : Nat) (xs : List α) (W : World), w.heap.size ≤ D → S xs → I xs W → W.heap[D]? = some (.deferred (some [])) → Q .normal { a with defers := { target := .collected D, args := #[] } :: a.defers } W)
    (hstop : ∀ (D : Nat) (c : Code) (pre : List α) (W : World), w.heap.size ≤ D → Sp pre → Ix c pre W → W.heap[D]? = some (.deferred (some [])) → c.wpIn F n P Q { a with defers := { target := .collected D, args := #[] } :: a.defers } W) :
    (Code.rangeFunc g ps assign body).wpIn F n P Q a w := by
  refine wpIn_rangeFunc fun fn hfn => ?_
  rw [hro]
  obtain ⟨R, hR⟩ : ∃ R : LoopState → Option Code → Loop, R = fun s p => { state := s, pending := p, fn, tmps := a.tmps, params := ps, assign, body, defers := w.heap.size } := ⟨_, rfl⟩
  obtain ⟨V, hV⟩ : ∃ V, V = (w.alloc (.deferred (some []))).alloc (.loop (R .ready none)) := ⟨_, rfl⟩
  have hsV : V.heap.size = w.heap.size + 2 := by rw [hV]; simp
  have hL : LoopAt w.heap.size (R .ready none) V := by
    rw [hV]
    refine ⟨?_, (Below.heap_alloc _ _ _ (by simp)).trans (World.alloc_heap_new w _)⟩
    have := World.alloc_heap_new (w.alloc (.deferred (some []))) (.loop (R .ready none))
    rwa [World.size_alloc] at this
  have hIV : I [] V := by rw [hV]; exact hI.alloc _ (hI.alloc _ h0)
  have hbV : Below w.heap.size w V := by rw [hV]; exact ((Below.refl _ w).alloc (Nat.le_refl _) _).alloc (by simp) _
  refine ⟨w.heap.size + 1, [{ target := .collected w.heap.size, args := #[] }], V, { target := .fn (.func gf) lb, args := #[.func (.yield (w.heap.size + 1)) #[] #[]] }, V, gf, #[.func (.yield (w.heap.size + 1)) #[] #[]] ++ lb, V, ?_, ?_, ?_, ?_, fun _ => h1, ?_⟩
  · rw [hV, hR]; exact run_enterLoop_outer _ _ _ _ _
  · simp only [resolve, hg]; simp [go_sem]
  · intro f' hf'; simp [Target.leads] at hf'; subst hf'; exact hF
  · simp [invoke, go_sem, eg]
  have rows : ∀ {X Y : World} {row : Option Nat}, (∀ r, row = some r → V.heap.size ≤ r ∧ ∃ o : Obj, X.heap[r]? = some o ∧ o.isWalk = true) → (∀ r, row = some r → w.heap.size ≤ r ∧ ∃ o : Obj, X.heap[r]? = some o ∧ o.isCells = false) := fun hr r e => by
    obtain ⟨hB, o, ho, hw⟩ := hr r e
    exact ⟨by omega, o, ho, Obj.not_cells_of_walk hw⟩
  refine (hseq (w.heap.size + 1) (fun pre W => I pre W ∧ LoopAt w.heap.size (R .ready none) W) (fun pre W => ∃ c, Ix c pre W ∧ LoopAt w.heap.size (R .done (some c)) W) V hbV
    (fun s X Y row h hg' hr => ⟨hI s X Y row h.1 hg' (rows (Y := Y) hr), h.2.abides hg' hr⟩)
    (fun s X Y row h hg' hr => by obtain ⟨c, h1, h2⟩ := h; exact ⟨c, hIx c s X Y row h1 hg' (rows (Y := Y) hr), h2.abides hg' hr⟩) ?_ ⟨hIV, hL⟩).mono ?_
  · rintro pre x X ⟨hi, hX⟩ hm hlen
    have hy := run_yield (P := P) (args := encs x) hX.own (by rw [hR]; exact hps x)
    rw [hR] at hy
    refine ⟨fn, _, assign, body, hy, roundIn_of_wpIn hfn (hassign _ pre x X _ hi hm ?_)⟩
    clear hy
    intro a' Y hkf hkp hiY hax
    have hY := hX.kept hkf
    refine ⟨_, run_beginRound hY.own (by rw [hR]), ?_⟩
    have hZ := hY.put { R .ready none with state := .busy }
    have hkZ : Kp Y (Y.putObj (w.heap.size + 1) (.loop { R .ready none with state := .busy })) := hKb _ _ _ _ (by omega) hY.own rfl rfl
    refine wpIn_mono (hbody _ pre x a' _ (hI.putObj _ hiY (by omega) hY.own rfl) ((hAx x a').putObj (s := ()) _ hax (by omega) hY.own rfl) hlen) ?_
    have fin : ∀ (jump : Option Code) (U : World), KeepsFrom w.heap.size (Y.putObj (w.heap.size + 1) (.loop { R .ready none with state := .busy })) U →
        (Instr.endRound (w.heap.size + 1) jump).run P U = .ok (.bool jump.isNone) (U.putObj (w.heap.size + 1) (.loop (R (if jump.isNone then .ready else .done) jump))) ∧ LoopAt w.heap.size { R .ready none with state := .busy } U ∧
        LoopAt w.heap.size (R (if jump.isNone then .ready else .done) jump) (U.putObj (w.heap.size + 1) (.loop (R (if jump.isNone then .ready else .done) jump))) := fun jump U hk => by
      have hU := hZ.kept hk
      have := run_endRound (P := P) jump hU.own
      refine ⟨?_, hU, hU.put _⟩
      rw [hR] at this ⊢
      exact this
    rintro e a3 U hp
    match e, hp with
    | .normal, ⟨p1, p2, p3⟩ =>
      obtain ⟨q1, q2, q3⟩ := fin none U p1
      exact ⟨_, _, q1, .inl ⟨rfl, ⟨hI.putObj _ p3 (by omega) q2.own rfl, q3⟩, hKt hkp (hKt (hKt hkZ p2) (hKb _ _ _ _ (by omega) q2.own rfl rfl))⟩⟩
    | .ret, ⟨p1, p3⟩ =>
      obtain ⟨q1, q2, q3⟩ := fin (some .ret) U p1
      exact ⟨_, _, q1, .inr ⟨rfl, .ret, (hIx _).putObj _ p3 (by omega) q2.own rfl, q3⟩⟩
    | .exit id, ⟨p1, p3⟩ =>
      obtain ⟨q1, q2, q3⟩ := fin (some (.exit id)) U p1
      exact ⟨_, _, q1, .inr ⟨rfl, .exit id, (hIx _).putObj _ p3 (by omega) q2.own rfl, q3⟩⟩
    | .goto t, ⟨p1, p3⟩ =>
      obtain ⟨q1, q2, q3⟩ := fin (some (.goto t)) U p1
      exact ⟨_, _, q1, .inr ⟨rfl, .goto t, (hIx _).putObj _ p3 (by omega) q2.own rfl, q3⟩⟩
  · rintro e U ⟨⟨v, rfl⟩, h⟩
    have last : ∀ {s : LoopState} {p : Option Code}, LoopAt w.heap.size (R s p) U → s ≠ .busy → (Instr.endLoop (w.heap.size + 1)).run P U = .ok p (U.putObj (w.heap.size + 1) (.loop { R s p with state := .exhausted })) := fun {s p} h hs => by
      have := run_endLoop (P := P) h.own (by rw [hR]; exact hs)
      rw [hR] at this ⊢
      exact this
    rcases h with ⟨xs, hS, hi, hU⟩ | ⟨pre, hSp, c, hi, hU⟩
    · exact ⟨none, _, last hU (by simp), hdone _ xs _ (Nat.le_refl _) hS (hI.putObj _ hi (by omega) hU.own rfl) ((World.putObj_heap_other (by omega)).trans hU.shut)⟩
    · exact ⟨some c, _, last hU (by simp), hstop _ c pre _ (Nat.le_refl _) hSp ((hIx c).putObj _ hi (by omega) hU.own rfl) ((World.putObj_heap_other (by omega)).trans hU.shut)⟩
end
end
section
set_option linter.unusedSimpArgs false
set_option linter.unusedVariables false
open Go.RowKit
section
variable {F : Fence} {n : Nat} {P : Program} {w : World}

/-- What the iterator owes, where each round leaves 'U' of what has come. -/
def TellsU {α β : Type} (F : Fence) (n : Nat) (P : Program) (gf : Nat) (lb : Array Value) (encs : α → Array Value) (M : α → Prop) (U : List α → β → World → Prop) (Kp : β → World → β → World → Prop) (S Sp : List α → Prop) (w : World) : Prop :=
  ∀ (l : Nat) (J : List α → β → World → Prop) (Jx : List α → World → Prop) (W : World) (d0 : β), Below w.heap.size w W → w.heap.size + 2 ≤ W.heap.size → (∀ s d X Y, J s d X → Below X.heap.size X Y → J s d Y) → (∀ s d X, J s d X → U s d X) →
    (∀ pre d x X, J pre d X → M x → YieldAt F (n - 1) P l (encs x) X fun e Y => (e = .returned (.bool true) ∧ ∃ d', J (pre ++ [x]) d' Y ∧ Kp d X d' Y) ∨ (e = .returned (.bool false) ∧ Jx (pre ++ [x]) Y)) → J [] d0 W →
    CallsIn F n P gf (#[.func (.yield l) #[] #[]] ++ lb) W fun e Y => (∃ v, e = .returned v) ∧ ((∃ xs d, S xs ∧ J xs d Y) ∨ (∃ pre, Sp pre ∧ Jx pre Y))

/-- The loop's own two blocks are as they were. -/
def KeepsL (D : Nat) (X Y : World) : Prop := Y.heap[D]? = X.heap[D]? ∧ Y.heap[D + 1]? = X.heap[D + 1]?
theorem KeepsL.refl (D : Nat) (X : World) : KeepsL D X X := ⟨rfl, rfl⟩
def postU {α β : Type} (D : Nat) (I : List α → β → World → Prop) (Kp : β → World → β → World → Prop) (d : β) (Ix : Code → List α → World → Prop) (xs : List α) (W : World) : Exit → Act → World → Prop
  | .normal, _, W' => KeepsL D W W' ∧ ∃ d', I xs d' W' ∧ Kp d W d' W'
  | .ret, _, W' => KeepsL D W W' ∧ Ix .ret xs W'
  | .exit id, _, W' => KeepsL D W W' ∧ Ix (.exit id) xs W'
  | .goto t, _, W' => KeepsL D W W' ∧ Ix (.goto t) xs W'
  | .panic _, _, _ => False
  | .outgrown, _, _ => False
theorem LoopAt.keptL {D : Nat} {r : Loop} {X Y : World} (h : LoopAt D r X) (hk : KeepsL D X Y) : LoopAt D r Y := ⟨hk.2.trans h.own, hk.1.trans h.shut⟩
theorem LoopAt.onB {D : Nat} {r : Loop} {X Y : World} (h : LoopAt D r X) (hb : Below X.heap.size X Y) : LoopAt D r Y :=
  ⟨(hb.block _ h.lt).trans h.own, (hb.block _ (by have := h.lt; omega)).trans h.shut⟩

theorem range_tellsU {α β : Type} {g : Operand} {ps : Array Tmp} {assign body : Code} {Q : Exit → Act → World → Prop} {a : Act}
    (hro : F.round = none) (h1 : 1 ≤ n) {gf : Nat} {lb : Array Value} (hg : a.eval g = .func (.func gf) #[] lb) (hF : F.fn gf) (eg : ∀ args w, (callFunc gf args).run P w = .ok (.enter gf args) w)
    {encs : α → Array Value} {M : α → Prop} {U : List α → β → World → Prop} {Kp : β → World → β → World → Prop} {S Sp : List α → Prop} (hseq : TellsU F (n - 1) P gf lb encs M U Kp S Sp w) (hps : ∀ x, (encs x).size = ps.size)
    (I : List α → β → World → Prop) (Ix : Code → List α → World → Prop) (d0 : β) (hI : ∀ pre d X Y, I pre d X → Below X.heap.size X Y → I pre d Y)
    (hI2 : ∀ pre d X r o, I pre d X → X.heap[w.heap.size + 1]? = some (.loop r) → I pre d (X.putObj (w.heap.size + 1) o)) (hKp : ∀ d X d' Y o o', Kp d (X.putObj (w.heap.size + 1) o) d' Y → Kp d X d' (Y.putObj (w.heap.size + 1) o')) (hIx2 : ∀ c pre X r o, Ix c pre X → X.heap[w.heap.size + 1]? = some (.loop r) → Ix c pre (X.putObj (w.heap.size + 1) o))
    (hU : ∀ pre d X, I pre d X → U pre d X) (h0 : I [] d0 w) (Ax : α → Act)
    (hassign : ∀ (l : Nat) (pre : List α) (d : β) (x : α) (W : World) (K : Act → World → Prop), I pre d W → M x → K (Ax x) W →
      assign.wpIn (F.inRound l) (n - 1 - 1) P (Exit.then K (fun _ _ _ => False)) { tmps := (ps.zip (encs x)).foldl (fun t (p, v) => t.setIfInBounds p v) a.tmps, defers := [] } W)
    (hbody : ∀ (l : Nat) (pre : List α) (d : β) (x : α) (W : World), I pre d W → M x → w.heap.size + 2 ≤ W.heap.size → body.wpIn (F.inRound l) (n - 1 - 1) P (postU w.heap.size I Kp d Ix (pre ++ [x]) W) (Ax x) W)
    (hdone : ∀ (xs : List α) (d : β) (W : World), S xs → I xs d W → W.heap[w.heap.size]? = some (.deferred (some [])) → Q .normal { a with defers := { target := .collected w.heap.size, args := #[] } :: a.defers } W)
    (hstop : ∀ (c : Code) (pre : List α) (W : World), Sp pre → Ix c pre W → W.heap[w.heap.size]? = some (.deferred (some [])) → c.wpIn F n P Q { a with defers := { target := .collected w.heap.size, args := #[] } :: a.defers } W) :
    (Code.rangeFunc g ps assign body).wpIn F n P Q a w := by
  refine wpIn_rangeFunc fun fn hfn => ?_
  rw [hro]
  obtain ⟨R, hR⟩ : ∃ R : LoopState → Option Code → Loop, R = fun s p => { state := s, pending := p, fn, tmps := a.tmps, params := ps, assign, body, defers := w.heap.size } := ⟨_, rfl⟩
  obtain ⟨V, hV⟩ : ∃ V, V = (w.alloc (.deferred (some []))).alloc (.loop (R .ready none)) := ⟨_, rfl⟩
  have hL : LoopAt w.heap.size (R .ready none) V := by
    rw [hV]
    refine ⟨?_, (Below.heap_alloc _ _ _ (by simp)).trans (World.alloc_heap_new w _)⟩
    have := World.alloc_heap_new (w.alloc (.deferred (some []))) (.loop (R .ready none))
    rwa [World.size_alloc] at this
  have hbV : Below w.heap.size w V := by rw [hV]; exact ((Below.refl _ w).alloc (Nat.le_refl _) _).alloc (by simp) _
  have hIV : I [] d0 V := hI _ _ _ _ h0 hbV
  refine ⟨w.heap.size + 1, [{ target := .collected w.heap.size, args := #[] }], V, { target := .fn (.func gf) lb, args := #[.func (.yield (w.heap.size + 1)) #[] #[]] }, V, gf, #[.func (.yield (w.heap.size + 1)) #[] #[]] ++ lb, V, ?_, ?_, ?_, ?_, fun _ => h1, ?_⟩
  · rw [hV, hR]; exact run_enterLoop_outer _ _ _ _ _
  · simp only [resolve, hg]; simp [go_sem]
  · intro f' hf'; simp [Target.leads] at hf'; subst hf'; exact hF
  · simp [invoke, go_sem, eg]
  refine (hseq (w.heap.size + 1) (fun pre d W => I pre d W ∧ LoopAt w.heap.size (R .ready none) W) (fun pre W => ∃ c, Ix c pre W ∧ LoopAt w.heap.size (R .done (some c)) W) V d0 hbV (by rw [hV]; simp)
    (fun s d X Y h hb => ⟨hI s d X Y h.1 hb, h.2.onB hb⟩) (fun s d X h => hU s d X h.1) ?_ ⟨hIV, hL⟩).mono ?_
  · rintro pre d x X ⟨hi, hX⟩ hm
    have hy := run_yield (P := P) (args := encs x) hX.own (by rw [hR]; exact hps x)
    rw [hR] at hy
    refine ⟨fn, _, assign, body, hy, roundIn_of_wpIn hfn (hassign _ pre d x X _ hi hm ?_)⟩
    clear hy
    refine ⟨_, run_beginRound hX.own (by rw [hR]), ?_⟩
    have hZ := hX.put { R .ready none with state := .busy }
    refine wpIn_mono (hbody _ pre d x _ (hI2 _ _ _ _ _ hi hX.own) hm hZ.lt) ?_
    have fin : ∀ (jump : Option Code) (U : World), KeepsL w.heap.size (X.putObj (w.heap.size + 1) (.loop { R .ready none with state := .busy })) U →
        (Instr.endRound (w.heap.size + 1) jump).run P U = .ok (.bool jump.isNone) (U.putObj (w.heap.size + 1) (.loop (R (if jump.isNone then .ready else .done) jump))) ∧ LoopAt w.heap.size { R .ready none with state := .busy } U ∧
        LoopAt w.heap.size (R (if jump.isNone then .ready else .done) jump) (U.putObj (w.heap.size + 1) (.loop (R (if jump.isNone then .ready else .done) jump))) := fun jump U hk => by
      have hU := hZ.keptL hk
      have := run_endRound (P := P) jump hU.own
      refine ⟨?_, hU, hU.put _⟩
      rw [hR] at this ⊢
      exact this
    rintro e a3 U hp
    match e, hp with
    | .normal, ⟨p1, d', p3, p4⟩ =>
      obtain ⟨q1, q2, q3⟩ := fin none U p1
      exact ⟨_, _, q1, .inl ⟨rfl, d', ⟨hI2 _ _ _ _ _ p3 q2.own, q3⟩, hKp _ _ _ _ _ _ p4⟩⟩
    | .ret, ⟨p1, p3⟩ =>
      obtain ⟨q1, q2, q3⟩ := fin (some .ret) U p1
      exact ⟨_, _, q1, .inr ⟨rfl, .ret, hIx2 _ _ _ _ _ p3 q2.own, q3⟩⟩
    | .exit id, ⟨p1, p3⟩ =>
      obtain ⟨q1, q2, q3⟩ := fin (some (.exit id)) U p1
      exact ⟨_, _, q1, .inr ⟨rfl, .exit id, hIx2 _ _ _ _ _ p3 q2.own, q3⟩⟩
    | .goto t, ⟨p1, p3⟩ =>
      obtain ⟨q1, q2, q3⟩ := fin (some (.goto t)) U p1
      exact ⟨_, _, q1, .inr ⟨rfl, .goto t, hIx2 _ _ _ _ _ p3 q2.own, q3⟩⟩
  · rintro e U ⟨⟨v, rfl⟩, h⟩
    have last : ∀ {s : LoopState} {p : Option Code}, LoopAt w.heap.size (R s p) U → s ≠ .busy → (Instr.endLoop (w.heap.size + 1)).run P U = .ok p (U.putObj (w.heap.size + 1) (.loop { R s p with state := .exhausted })) := fun {s p} h hs => by
      have := run_endLoop (P := P) h.own (by rw [hR]; exact hs)
      rw [hR] at this ⊢
      exact this
    rcases h with ⟨xs, d, hS, hi, hU⟩ | ⟨pre, hSp, c, hi, hU⟩
    · exact ⟨none, _, last hU (by simp), hdone xs d _ hS (hI2 _ _ _ _ _ hi hU.own) ((World.putObj_heap_other (by omega)).trans hU.shut)⟩
    · exact ⟨some c, _, last hU (by simp), hstop c pre _ hSp (hIx2 _ _ _ _ _ hi hU.own) ((World.putObj_heap_other (by omega)).trans hU.shut)⟩
end
abbrev encS (x : List UInt8) : Array Value := #[.string ⟨x.toArray⟩]
abbrev shortS (x : List UInt8) : Prop := x.length ≤ 281474976710656
end
section
set_option linter.unusedSimpArgs false
set_option linter.unusedVariables false
open Go.RowKit Go.Sort Go.Maps Go.Shelf
open Crc Frm
open Sgn
attribute [local go_sem] Oper.semAt_some

/-- What is left behind deletes, one by one. -/
def delRun : List (List UInt8) → St → St
  | [], t => t
  | s :: l, t => delRun l (t.delete s).2
theorem delRun_snoc (l : List (List UInt8)) (s : List UInt8) (t : St) : delRun (l ++ [s]) t = ((delRun l t).delete s).2 := by
  induction l generalizing t with
  | nil => rfl
  | cons x l ih => exact ih _
theorem delAll_snoc (l : List (List UInt8)) (s : List UInt8) (t : St) : delAll (l ++ [s]) t = thenSt (delAll l t) fun t => t.delete s := by
  induction l generalizing t with
  | nil =>
    show thenSt (t.delete s) (fun t => (0, t)) = t.delete s
    unfold thenSt
    split
    · rfl
    · rename_i h
      rw [Decidable.not_not] at h
      exact Prod.ext h.symm rfl
  | cons x l ih =>
    show thenSt (t.delete x) (delAll (l ++ [s])) = thenSt (thenSt (t.delete x) (delAll l)) _
    by_cases h : (t.delete x).1 = 0
    · have e : ∀ f : St → Int × St, thenSt (t.delete x) f = f (t.delete x).2 := fun f => if_neg (by simp [h])
      rw [e, e, ih]
    · have e : ∀ f : St → Int × St, thenSt (t.delete x) f = t.delete x := fun f => if_pos h
      rw [e, e, e]
theorem delAll_run {l : List (List UInt8)} {t : St} (h : (delAll l t).1 = 0) : (delAll l t).2 = delRun l t := by
  induction l generalizing t with
  | nil => rfl
  | cons x l ih =>
    have e : delAll (x :: l) t = thenSt (t.delete x) (delAll l) := rfl
    rw [e] at h ⊢
    unfold thenSt at h ⊢
    by_cases h0 : (t.delete x).1 = 0
    · rw [if_neg (by simp [h0])] at h ⊢
      exact ih h
    · rw [if_pos h0] at h
      exact absurd h h0
theorem delAll_stop {l r : List (List UInt8)} {t : St} (h : (delAll l t).1 ≠ 0) : delAll (l ++ r) t = delAll l t := by
  induction l generalizing t with
  | nil => exact absurd rfl h
  | cons x l ih =>
    have e : ∀ l, delAll (x :: l) t = thenSt (t.delete x) (delAll l) := fun _ => rfl
    rw [List.cons_append, e, e]
    rw [e] at h
    unfold thenSt at h ⊢
    by_cases h0 : (t.delete x).1 = 0
    · rw [if_neg (by simp [h0])] at h
      rw [if_neg (by simp [h0]), if_neg (by simp [h0]), ih h]
    · rw [if_pos h0, if_pos h0]

theorem but_putObj (X : World) (b : Nat) (o : Obj) : But (fun k => k = b) X (X.putObj b o) :=
  ⟨rfl, rfl, rfl, by simp [World.putObj], fun k _ hk => World.putObj_heap_other (fun e => hk e)⟩
section
variable {w0 w X Y : World} {dp : Nat} {t : St} {D : Nat → Prop}
theorem DK.out_ {O : Nat → Prop} (h : DK w0 X dp t D) (hb : But O X Y) (hO : ∀ k, O k → ¬ D k ∧ w0.heap.size ≤ k) : DK w0 Y dp t D :=
  ⟨Dsk.but h.is hb (fun k hk ho => (hO k ho).1 hk), h.base, h.below.trans (hb.below h.below.size fun k hk => (hO k hk).2)⟩
end
/-- What has come has been deleted; two blocks from B on are another's. -/
def UDx (w0 w : World) (dp : Nat) (D O : Nat → Prop) (t : St) (D1 : Nat → Prop) (X : World) : Prop :=
  DK w0 X dp t D1 ∧ But O w X ∧ ∀ k, D1 k → D k ∨ w.heap.size + 2 ≤ k
def UD (w0 w : World) (dp : Nat) (D O : Nat → Prop) (t : St) (X : World) : Prop := ∃ D1, UDx w0 w dp D O t D1 X
/-- What a round leaves of what isn't the disk's, but for two blocks. -/
def KpD (B : Nat) (d : Nat → Prop) (X : World) (d' : Nat → Prop) (Y : World) : Prop :=
  X.heap.size ≤ Y.heap.size ∧ (∀ k, k < X.heap.size → ¬ d k → k ≠ B → k ≠ B + 1 → Y.heap[k]? = X.heap[k]?) ∧ ∀ k, d' k → d k ∨ X.heap.size ≤ k
theorem KpD.puts {B : Nat} {d d' : Nat → Prop} {X Y : World} (o o' : Obj) (h : KpD B d (X.putObj (B + 1) o) d' Y) : KpD B d X d' (Y.putObj (B + 1) o') := by
  have hz : ∀ (Z : World) (o : Obj), (Z.putObj (B + 1) o).heap.size = Z.heap.size := fun Z o => by simp [World.putObj]
  obtain ⟨h1, h2, h3⟩ := h
  rw [hz] at h1 h3
  refine ⟨by rw [hz]; exact h1, fun k hk hd ha hb => ?_, h3⟩
  rw [World.putObj_heap_other hb, h2 k (by rw [hz]; exact hk) hd ha hb, World.putObj_heap_other hb]
section
variable {w0 w X Y : World} {dp : Nat} {t t' : St} {D O : Nat → Prop}
theorem UDx.on {D1 : Nat → Prop} (h : UDx w0 w dp D O t D1 X) (hb : Below X.heap.size X Y) : UDx w0 w dp D O t D1 Y := by
  obtain ⟨h1, h2, h3⟩ := h
  exact ⟨h1.on hb, h2.trans (But.of_below (O := fun _ => False) hb) (fun _ hf => hf.elim), h3⟩
theorem UDx.loop {D1 : Nat → Prop} (h : UDx w0 w dp D O t D1 X) (hD : ∀ k, D k → k < w.heap.size) (hw : w0.heap.size ≤ w.heap.size) (o : Obj) (j : Nat) (hj : j < 2) : UDx w0 w dp D O t D1 (X.putObj (w.heap.size + j) o) := by
  obtain ⟨h1, h2, h3⟩ := h
  refine ⟨h1.out_ (but_putObj X _ o) ?_, h2.trans (but_putObj X _ o) (fun k hk => by subst hk; right; omega), h3⟩
  intro k hk
  subst hk
  exact ⟨fun h4 => by rcases h3 _ h4 with h5 | h5; have := hD _ h5; omega; omega, by omega⟩
theorem UD.loop (h : UD w0 w dp D O t X) (hD : ∀ k, D k → k < w.heap.size) (hw : w0.heap.size ≤ w.heap.size) (o : Obj) (j : Nat) (hj : j < 2) : UD w0 w dp D O t (X.putObj (w.heap.size + j) o) := by
  obtain ⟨D1, h1⟩ := h
  exact ⟨D1, UDx.loop h1 hD hw o j hj⟩
/-- Behind a call of the disk. -/
theorem UDx.mv {D1 : Nat → Prop} (hw : w.heap.size + 2 ≤ X.heap.size) (h2 : But O w X) (h3 : ∀ k, D1 k → D k ∨ w.heap.size + 2 ≤ k) (hDO : ∀ k, D k → O k) (hm : Mv w0 X dp D1 t' Y) (hD : ∀ k, D k → k < w.heap.size) : (∃ D2, UDx w0 w dp D O t' D2 Y ∧ KpD w.heap.size D1 X D2 Y) ∧ KeepsL w.heap.size X Y := by
  obtain ⟨D2, k1, k2, k3⟩ := hm
  have nb : ∀ j, j < 2 → ¬ D1 (w.heap.size + j) := fun j hj h4 => by
    rcases h3 _ h4 with h5 | h5
    · have := hD _ h5; omega
    · omega
  refine ⟨⟨D2, ⟨k1, h2.trans k2 (fun k hk => by rcases h3 k hk with h4 | h4; exact .inl (hDO k h4); right; omega), fun k hk => ?_⟩, k2.size, fun k hk hd _ _ => k2.block k hk hd, k3⟩, k2.block _ (by omega) (nb 0 (by omega)), k2.block _ (by omega) (nb 1 (by omega))⟩
  rcases k3 k hk with h4 | h4
  · exact h3 k h4
  · right; omega
theorem UD.out {W0 : World} (h : UD w0 W0 dp D O t X) (hb : Below w.heap.size w W0) (hw0 : w0.heap.size ≤ w.heap.size) (hD : ∀ k, D k → k < w.heap.size) (hO : ∀ k, O k → D k ∨ w.heap.size ≤ k) {O2 : Nat → Prop} (hY : But O2 X Y) (hO2 : ∀ k, O2 k → w.heap.size ≤ k ∧ k < W0.heap.size + 2) : Mv w0 w dp D t Y := by
  obtain ⟨D1, h1, h2, h3⟩ := h
  have hz := hb.size
  refine ⟨D1, h1.out_ hY fun k hk => ?_, ?_, fun k hk => ?_⟩
  · have h4 := hO2 k hk
    exact ⟨fun h5 => by rcases h3 k h5 with h6 | h6; have := hD k h6; omega; omega, by omega⟩
  · have e1 := (But.of_below (O := D) hb).trans (h2.more (O' := fun k => D k ∨ w.heap.size ≤ k) hO) (fun k hk => by rcases hk with h4 | h4; exact .inl h4; exact .inr h4)
    exact e1.trans hY (fun k hk => .inr (hO2 k hk).1)
  · rcases h3 k hk with h4 | h4
    · exact .inl h4
    · right; omega
end

theorem del_results {tmps : Array Value} {W : World} {B : Nat} {v : Int} (h1 : tmps.getD 4 undef = .pointer (some ⟨B, 0, none⟩)) (hc : W.cell? ⟨B, 0, none⟩ = some (.int .i64 v)) :
    (results Tryz.f35 tmps).run Tryz.prog W = .ok (.int .i64 v) W := by
  have h1' : tmps[4]?.getD undef = .pointer (some ⟨B, 0, none⟩) := by simpa using h1
  simp [results, Tryz.results35, go_sem, h1', asAddr, hc]
theorem cell_putObj {X : World} {b : Nat} {o : Obj} {p : Addr} {v : Value} (h : X.cell? p = some v) (hne : p.block ≠ b) : (X.putObj b o).cell? p = some v :=
  (World.cell?_of_block (w := X) (World.putObj_heap_other hne)).trans h

set_option linter.unusedSimpArgs false in
set_option maxRecDepth 100000 in
set_option maxHeartbeats 4000000 in
theorem deleteAll_any {w0 w : World} {dp lp : Nat} {t : St} {D : Nat → Prop} (hd : DK w0 w dp t D) (c0 : w.cell? ⟨lp, 0, none⟩ = some (.pointer (some ⟨dp, 0, none⟩))) (hlp : ¬ D lp) (gf : FuncId) (lb : Array Value) (l : List (List UInt8))
    (hgf : ∀ args x, (callFunc gf args).run Tryz.prog x = .ok (.enter gf args) x)
    (hit : ∀ W, Below w.heap.size w W → TellsU Fence.wide 11 Tryz.prog gf lb encS shortS (fun pre d X => UDx w0 W dp D D (delRun pre t) d X) (KpD W.heap.size) (· = l) (fun pre => ∃ post, l = pre ++ post) W) :
    Calls Tryz.prog 35 #[.pointer (some ⟨lp, 0, none⟩), .func (.func gf) #[] lb] w fun e w' => e = .returned (.int .i64 (delAll l t).1) ∧ Mv w0 w dp D (delAll l t).2 w' := by
  refine (callsIn_wide (n := 12)).1 ?_
  refine callsIn_of_wp_marks Tryz.func35 rfl trivial ?_ rfl
  simp only [Tryz.ntmps35, List.size_toArray, List.length_cons, List.length_nil, Nat.reduceAdd, Nat.reduceSub, Array.replicate_succ, Array.replicate_zero, List.push_toArray, List.append_toArray, List.nil_append, List.cons_append]
  obtain ⟨W0, hW0⟩ : ∃ W0, W0 = (w.alloc (.cells #[.pointer (some ⟨lp, 0, none⟩)] 29)).alloc (.cells #[.int .i64 0] 30) := ⟨_, rfl⟩
  have hB0 : Below w.heap.size w W0 := by rw [hW0]; exact ((Below.refl _ w).alloc (Nat.le_refl _) _).alloc (by simp) _
  have hs0 : W0.heap.size = w.heap.size + 2 := by rw [hW0]; simp
  have hl0 : W0.cell? ⟨w.heap.size, 0, none⟩ = some (.pointer (some ⟨lp, 0, none⟩)) := by rw [hW0]; simp [go_sem]
  have hr0 : W0.cell? ⟨w.heap.size + 1, 0, none⟩ = some (.int .i64 0) := by rw [hW0]; simp [go_sem]
  have hz0 : W0.frozen? ⟨w.heap.size + 1, 0, none⟩ = false := by rw [hW0]; simp [go_sem]
  have hd0 := hd.on hB0
  have hww := hd.below.size
  have hc0 := (hB0.cell (p := ⟨lp, 0, none⟩) (block_lt_of_cell c0)).trans c0
  have hDlt := hd.lt
  have hit0 := hit W0 hB0
  have hlt : lp < w.heap.size := block_lt_of_cell c0
  have HW0 := Lib.hid hW0
  have HH := Lib.hid (And.intro hB0 (And.intro hl0 (And.intro hr0 (And.intro hz0 hc0))))
  clear hW0 hB0 hl0 hr0 hz0 hc0 hd c0 hit
  have hwsz := hd0.below.size
  have CE : Hid (∀ (_ : Unit) X, But D W0 X → X.cell? ⟨w.heap.size, 0, none⟩ = some (.pointer (some ⟨lp, 0, none⟩)) ∧ X.cell? ⟨w.heap.size + 1, 0, none⟩ = some (.int .i64 0) ∧ X.frozen? ⟨w.heap.size + 1, 0, none⟩ = false ∧ X.cell? ⟨lp, 0, none⟩ = some (.pointer (some ⟨dp, 0, none⟩))) := fun _ X k2 =>
    ⟨(k2.cell (b := w.heap.size) (o := 0) (by omega) (fun h => by have := hDlt _ h; omega)).trans HH.out.2.1,
     (k2.cell (b := w.heap.size + 1) (o := 0) (by omega) (fun h => by have := hDlt _ h; omega)).trans HH.out.2.2.1,
     (k2.frozen (b := w.heap.size + 1) (o := 0) (by omega) (fun h => by have := hDlt _ h; omega)).trans HH.out.2.2.2.1,
     (k2.cell (b := lp) (o := 0) (by omega) hlp).trans HH.out.2.2.2.2⟩
  gi_wp2_with fail
  rw [← HW0.out]
  refine range_tellsU rfl (by omega) (gf := gf) (lb := lb) rfl trivial hgf hit0 (fun _ => rfl)
    (fun pre d X => (delAll pre t).1 = 0 ∧ UDx w0 W0 dp D D (delRun pre t) d X)
    (fun c pre X => c = .ret ∧ (delAll pre t).1 ≠ 0 ∧ UD w0 W0 dp D (fun k => D k ∨ k = w.heap.size + 1) (delAll pre t).2 X ∧ X.cell? ⟨w.heap.size + 1, 0, none⟩ = some (.int .i64 (delAll pre t).1))
    D (fun pre d X Y h hb => ⟨h.1, UDx.on h.2 hb⟩) ?hI2 (fun _ _ _ _ o o' h => KpD.puts o o' h) ?hIx2 (fun pre d X h => h.2) ?h0 (fun x => { tmps := #[.pointer (some ⟨lp, 0, none⟩), .func (.func gf) #[] lb, .pointer (some ⟨w.heap.size, 0, none⟩), undef, .pointer (some ⟨w.heap.size + 1, 0, none⟩), .string ⟨x.toArray⟩, undef, .func (.func gf) #[] lb, .string ⟨x.toArray⟩, undef, undef, undef, undef, undef, undef, undef, undef, undef], defers := [] }) ?assign ?body ?done ?stop
  case hI2 =>
    intro pre d X r o h _
    exact ⟨h.1, UDx.loop h.2 (fun k hk => by have := hDlt k hk; omega) hd0.below.size o 1 (by omega)⟩
  case hIx2 =>
    rintro c pre X r o ⟨h1, h2, h3, h4⟩ _
    exact ⟨h1, h2, h3.loop (fun k hk => by have := hDlt k hk; omega) hd0.below.size o 1 (by omega), cell_putObj h4 (by show w.heap.size + 1 ≠ _; omega)⟩
  case h0 => exact ⟨rfl, hd0, But.refl _ _, fun k hk => .inl hk⟩
  case assign =>
    intro l pre d x W K hI hM hK
    simp only [encS]
    gi_wp2
    exact hK
  case body =>
    rintro l pre D1 x W ⟨hok, k1, k2, k3⟩ hM hsz
    obtain ⟨hcl, hre, hzr, hcl2⟩ := CE.out () _ k2
    have DL := k1.delete ⟨x.toArray⟩ hM
    change Calls _ _ _ _ (fun e w' => e = .returned (.int .i64 ((delRun pre t).delete x).1) ∧ Mv w0 W dp D1 ((delRun pre t).delete x).2 w') at DL
    have DL := Lib.hid DL
    have HU := Lib.hid (And.intro hok (And.intro k2 (And.intro k3 hsz)))
    have hsn : Hid (delAll (pre ++ [x]) t = (delRun pre t).delete x) := by
      show _ = _
      rw [delAll_snoc]
      unfold thenSt
      rw [if_neg (by simp [hok]), delAll_run hok]
    clear hok k1 k2 k3 hM hsz
    gi_wp2_with fail
    refine ⟨trivial, (CallsIn.inRound l (callsIn_wide.2 DL.out)).mono ?_⟩
    rintro e W2 ⟨rfl, hmv⟩
    obtain ⟨⟨D2, hU2, hkp⟩, hkl⟩ := UDx.mv (w := W0) (O := D) HU.out.2.2.2 HU.out.2.1 HU.out.2.2.1 (fun _ h => h) hmv (fun k hk => by have := hDlt k hk; omega)
    have hU2' := hU2
    obtain ⟨k1, k2, k3⟩ := hU2'
    obtain ⟨hcl, hre, hzr, hcl2⟩ := CE.out () _ k2
    have H2 := Lib.hid (And.intro hU2 (And.intro hkl (And.intro k1 (And.intro k2 k3))))
    have HKP := Lib.hid hkp
    clear hU2 hkl k1 k2 k3 hmv DL hkp
    generalize hxe : ((delRun pre t).delete x) = r at *
    by_cases hx : r.1 = 0
    · have hx' : (r.1 != 0) = false := by simp [hx]
      gi_wp2
      exact ⟨H2.out.2.1, D2, ⟨by rw [hsn.out]; exact hx, by rw [delRun_snoc, hxe]; exact H2.out.1⟩, HKP.out⟩
    · have hx' : (r.1 != 0) = true := by simp [hx]
      gi_wp2
      have hb2 : ¬ D2 (w.heap.size + 1) := fun ho => by
        rcases H2.out.2.2.2.2 _ ho with h4 | h4
        · have := hDlt _ h4; omega
        · omega
      refine ⟨⟨(Below.heap_setCell _ _ _ _ (by show W0.heap.size ≠ w.heap.size + 1; omega)).trans H2.out.2.1.1, (Below.heap_setCell _ _ _ _ (by show W0.heap.size + 1 ≠ w.heap.size + 1; omega)).trans H2.out.2.1.2⟩, rfl, by rw [hsn.out]; exact hx, ⟨D2, ?_, ?_, H2.out.2.2.2.2⟩, ?_⟩
      · rw [hsn.out]
        exact H2.out.2.2.1.setOut ⟨w.heap.size + 1, 0, none⟩ _ hb2 (by show _ ≤ w.heap.size + 1; omega)
      · exact (H2.out.2.2.2.1.more (fun k hk => .inl hk)).setCell (p := ⟨w.heap.size + 1, 0, none⟩) (.inl (.inr rfl)) _
      · rw [hsn.out]
        exact World.cell?_setCell_same _ _ _ hre
  case done =>
    rintro xs D1 W rfl ⟨hok, k1, k2, k3⟩ hK
    obtain ⟨hcl, hre, hzr, hcl2⟩ := CE.out () _ k2
    have HU := Lib.hid (And.intro hok (And.intro k1 (And.intro k2 (And.intro k3 hK))))
    clear hok k1 k2 k3 hK
    gi_wp2
    have hK' : (W.setCell ⟨w.heap.size + 1, 0, none⟩ (.int .i64 0)).heap[W0.heap.size]? = some (.deferred (some [])) := (Below.heap_setCell _ _ _ _ (by show W0.heap.size ≠ w.heap.size + 1; omega)).trans HU.out.2.2.2.2
    refine ⟨by simp, .inl ⟨_, _, rfl, run_takeDeferred hK', ?_⟩⟩
    refine ⟨_, del_results rfl (cell_putObj (World.cell?_setCell_same _ _ _ hre) (by show w.heap.size + 1 ≠ _; omega)), by rw [HU.out.1], ?_⟩
    rw [delAll_run HU.out.1]
    exact UD.out (W0 := W0) (O := D) ⟨D1, HU.out.2.1, HU.out.2.2.1, HU.out.2.2.2.1⟩ HH.out.1 hww (fun k hk => hDlt k hk) (fun k hk => .inl hk)
      (((But.refl (fun k => k = w.heap.size + 1 ∨ k = W0.heap.size) W).setCell (p := ⟨w.heap.size + 1, 0, none⟩) (.inl (.inl rfl)) _).trans ((but_putObj _ W0.heap.size _).more (fun k hk => .inr hk)) (fun k hk => .inl hk)) (fun k hk => by rcases hk with rfl | rfl <;> omega)
  case stop =>
    rintro c pre W ⟨post, hpost⟩ ⟨rfl, hne, ⟨D1, k1, k2, k3⟩, hcell⟩ hK
    gi_wp2
    refine ⟨by simp, .inl ⟨_, _, rfl, run_takeDeferred hK, ?_⟩⟩
    rw [hpost, delAll_stop hne]
    refine ⟨_, del_results rfl (cell_putObj hcell (by show w.heap.size + 1 ≠ _; omega)), rfl, ?_⟩
    exact UD.out (W0 := W0) (O := fun k => D k ∨ k = w.heap.size + 1) ⟨D1, k1, k2, k3⟩ HH.out.1 hww (fun k hk => hDlt k hk) (fun k hk => by rcases hk with h4 | rfl; exact .inl h4; right; omega)
      ((but_putObj _ W0.heap.size _)) (fun k hk => by subst hk; omega)
end
section
set_option linter.unusedSimpArgs false
set_option linter.unusedVariables false
open Go.RowKit Go.Sort Go.Maps Go.Shelf
open Crc Frm
open Sgn
attribute [local go_sem] Oper.semAt_some

/-- What comes: each name of which there is a file, those that came being deleted. -/
def thereN (t : St) : List (List UInt8) → List (List UInt8) → List (List UInt8)
  | _, [] => []
  | pre, s :: r => if (delRun pre t).has s = true then s :: thereN t (pre ++ [s]) r else thereN t pre r
abbrev nmC (ls : List (List UInt8)) (j : Nat) : Value := .string ⟨(ls.getD j []).toArray⟩

set_option linter.unusedSimpArgs false in
set_option maxRecDepth 100000 in
set_option maxHeartbeats 4000000 in
theorem there_tells {w0 w : World} {dp lp bn bl : Nat} {t : St} {D : Nat → Prop} (names : List (List UInt8)) (na : Option Addr) (n nc : Nat) (hn : names.length = n) (hshort : ∀ s ∈ names, shortS s)
    (hl : w.cell? ⟨bl, 0, none⟩ = some (.pointer (some ⟨lp, 0, none⟩))) (hs : w.cell? ⟨bn, 0, none⟩ = some (.slice na n nc)) (c0 : w.cell? ⟨lp, 0, none⟩ = some (.pointer (some ⟨dp, 0, none⟩)))
    (hr : Row w w.heap.size na n nc 1 (nmC names)) (hDl : ¬ D bl) (hDn : ¬ D bn) (hDp : ¬ D lp) (hDr : ∀ k o, na = some ⟨k, o, none⟩ → ¬ D k) :
    TellsU Fence.wide 11 Tryz.prog 90 #[.pointer (some ⟨bn, 0, none⟩), .pointer (some ⟨bl, 0, none⟩)] encS shortS (fun pre d X => UDx w0 w dp D D (delRun pre t) d X) (KpD w.heap.size) (· = thereN t [] names) (fun pre => ∃ post, thereN t [] names = pre ++ post) w := by
  intro l J Jx W d0 hBW _ hJ hU hY h0
  have hbl := block_lt_of_cell hl
  have hbn := block_lt_of_cell hs
  have hbp := block_lt_of_cell c0
  have hrl := hr.le
  have hrm := hr.max
  unfold maxLen at hrm
  have CE : Hid (∀ pre d X, J pre d X → X.cell? ⟨bl, 0, none⟩ = some (.pointer (some ⟨lp, 0, none⟩)) ∧ X.cell? ⟨bn, 0, none⟩ = some (.slice na n nc) ∧ X.cell? ⟨lp, 0, none⟩ = some (.pointer (some ⟨dp, 0, none⟩)) ∧
      (∀ k, k < n → ∃ b o, na = some ⟨b, o, none⟩ ∧ X.cell? ⟨b, o + k, none⟩ = some (.string ⟨(names.getD k []).toArray⟩)) ∧ DK w0 X dp (delRun pre t) d) := fun pre d X hj => by
    obtain ⟨k1, k2, k3⟩ := hU pre d X hj
    refine ⟨(k2.cell (b := bl) (o := 0) hbl hDl).trans hl, (k2.cell (b := bn) (o := 0) hbn hDn).trans hs, (k2.cell (b := lp) (o := 0) hbp hDp).trans c0, fun k hk => ?_, k1⟩
    obtain ⟨b, o, e, hb, hc⟩ := hr.at_ (by omega)
    exact ⟨b, o, e, (k2.cell (b := b) (o := o + k) hb (hDr b o e)).trans (hc k (by omega))⟩
  have HY := Lib.hid (And.intro hJ (And.intro hY hshort))
  have hsW := (CE.out _ _ _ h0).2.1
  clear hl hs c0 hr hbl hbn hbp hDl hDn hDp hDr hU hJ hY hshort
  refine callsIn_of_wp Tryz.func90 rfl trivial ?_ rfl
  simp only [Tryz.ntmps90, List.size_toArray, List.length_cons, List.length_nil, Nat.reduceAdd, Nat.reduceSub, Array.replicate_succ, Array.replicate_zero, List.push_toArray, List.append_toArray, List.nil_append, List.cons_append]
  gi_wp2
  gi_loopw [5, 6, 7, 10, 14] (fun _ _ _ i _ wr => ∃ (k : Nat) (pre : List (List UInt8)) (d : Nat → Prop), k ≤ n ∧ i = .int .i64 (k : Int) ∧ J pre d wr ∧ pre ++ thereN t pre (names.drop k) = thereN t [] names) (fun _ _ _ i _ _ => n - (intOf i).toNat)
  case atStart => exact ⟨0, [], d0, Nat.zero_le _, rfl, h0, rfl⟩
  case round =>
    obtain ⟨k, pre, d, hk, rfl, hJs, hpre⟩ := hrel
    obtain ⟨hcl, hcn, hcp, hcr, k1⟩ := CE.out _ _ _ hJs
    by_cases hlt : k < n
    · obtain ⟨b, o, rfl, hck⟩ := hcr k hlt
      have hmem : names.getD k [] ∈ names := by
        rw [List.getD_eq_getElem?_getD, List.getElem?_eq_getElem (by omega)]
        exact List.getElem_mem _
      have hdrop : names.drop k = names.getD k [] :: names.drop (k + 1) := by
        rw [List.drop_eq_getElem_cons (by omega), List.getD_eq_getElem?_getD, List.getElem?_eq_getElem (by omega)]
        rfl
      have hsh := HY.out.2.2 _ hmem
      rw [hdrop] at hpre
      obtain ⟨s, hs⟩ : ∃ s, s = names.getD k [] := ⟨_, rfl⟩
      rw [← hs] at hck hsh hpre
      have hby := fat_byte k1.good s
      have R := k1.read ⟨s.toArray⟩ (by unfold maxLen; unfold shortS at hsh; show s.length ≤ _; omega)
      change Calls _ _ _ _ (NewBytes wr ((delRun pre t).bytes s) ((delRun pre t).has s)) at R
      change ∀ c ∈ (delRun pre t).bytes s, c < 256 at hby
      have R := Lib.hid R
      have HS := Lib.hid (And.intro hpre (And.intro hJs (And.intro hsh (And.intro hby k1))))
      clear hpre hJs hsh hby k1 hmem hdrop hs hcr
      gi_wp2_with fail
      refine ⟨trivial, (callsIn_wide.2 R.out).mono ?_⟩
      rintro e w2 hN
      obtain ⟨a2, n2, rfl, _, _, b2⟩ := NewBytes.out HS.out.2.2.2.2 hN HS.out.2.2.2.1
      have hJ2 := HY.out.1 _ _ _ _ HS.out.2.1 b2
      generalize hbs : (delRun pre t).bytes s = bs at *
      have hst : Hid (thereN t pre (s :: names.drop (k + 1)) = if (delRun pre t).has s = true then s :: thereN t (pre ++ [s]) (names.drop (k + 1)) else thereN t pre (names.drop (k + 1))) := rfl
      clear hN b2 R hcl hcn hcp
      generalize (delRun pre t).has s = is at *
      cases is with
      | false =>
        have hpre' : Hid (pre ++ thereN t pre (names.drop (k + 1)) = thereN t [] names) := by
          have h1 := HS.out.1
          have h2 := hst.out
          rw [if_neg (by simp)] at h2
          rw [h2] at h1
          exact h1
        have HJ2 := Lib.hid hJ2
        clear hJ2 hst
        gi_wp2
        refine ⟨fun _ h => (by cases h), ?_⟩
        gi_wp2
        go_roundw
        case rel => exact ⟨k + 1, pre, d, by omega, by go_num, HJ2.out, hpre'.out⟩
        case measure => simp [intOf]; omega
      | true =>
        have hpre' : Hid (pre ++ s :: thereN t (pre ++ [s]) (names.drop (k + 1)) = thereN t [] names) := by
          have h1 := HS.out.1
          have h2 := hst.out
          rw [if_pos rfl] at h2
          rw [h2] at h1
          exact h1
        obtain ⟨fn, tmps, assign, body, hy, hR⟩ := HY.out.2.1 pre d s w2 hJ2 HS.out.2.2.1
        simp only [encS] at hy
        have HR := Lib.hid hR
        clear hR hJ2 hst
        gi_wp2
        refine HR.out.mono ?_
        rintro e Y (⟨rfl, d', hJ4, _⟩ | ⟨rfl, hJx4⟩)
        · have H4 := Lib.hid hJ4
          clear hJ4 HR hy
          gi_wp2
          go_roundw
          case rel => exact ⟨k + 1, pre ++ [s], d', by omega, by go_num, H4.out, by rw [List.append_assoc]; exact hpre'.out⟩
          case measure => simp [intOf]; omega
        · have H4 := Lib.hid hJx4
          clear hJx4 HR hy
          gi_wp2
          refine bodyPost_ret (results_none rfl _ _ _) rfl ?_
          exact ⟨⟨_, rfl⟩, .inr ⟨_, ⟨thereN t (pre ++ [s]) (names.drop (k + 1)), by rw [List.append_assoc]; exact hpre'.out.symm⟩, H4.out⟩⟩
    · have hkn : k = n := by omega
      subst hkn
      have HE := Lib.hid (And.intro hJs hpre)
      clear hJs hpre hcr
      gi_wp2
      go_end0
      refine ⟨⟨_, rfl⟩, .inl ⟨pre, d, ?_, HE.out.1⟩⟩
      have h1 := HE.out.2
      rw [List.drop_of_length_le (by omega)] at h1
      simpa [thereN] using h1
end
section
set_option linter.unusedSimpArgs false
set_option linter.unusedVariables false
open Go.RowKit

theorem i64V_one (cs : List Int) : ∀ u ∈ i64V cs, u.oneCell' = true := by
  intro u hu
  obtain ⟨n, _, rfl⟩ := List.mem_map.1 hu
  rfl
theorem Row.news {w : World} {B : Nat} {ad : Addr} {m c : Nat} {l : List Int} (h : Row w B (some ad) m c 1 (intsC l)) (hl : l.length = m) : ∀ j u, (i64V l)[j]? = some u → w.cell? (ad.add j) = some u := by
  intro j u hu
  rw [List.getElem?_map] at hu
  obtain ⟨n, hn, rfl⟩ := Option.map_eq_some_iff.1 hu
  have hj : j < m := by
    have := (List.getElem?_eq_some_iff.1 hn).1
    rw [← hl]; exact this
  obtain ⟨b, o, e, _, hc⟩ := h.at_ (by omega)
  have he : ad = ⟨b, o, none⟩ := by injection e
  subst he
  rw [Addr.add_mid, hc j (by omega)]
  simp only [intsC, List.getD_eq_getElem?_getD, hn]
  rfl
theorem OwnV.at_base {w : World} {base : Nat} {e : TypeId} {v : Value} {us : List Value} (h : OwnV w base e v us) {b : Nat} (hb : v.ownBlock = some b) : base ≤ b ∧ b < w.heap.size := by
  rcases h.2 with ⟨rfl, _⟩ | ⟨g, cap, cur, rfl, h2, h3, _⟩
  · cases hb
  · injection hb with hb
    subst hb
    exact ⟨h2, lt_of_heap h3⟩
theorem OwnV.lit_ {w : World} {base : Nat} (e : TypeId) (l : List Int) (hb : base ≤ w.heap.size) (hm : l.length ≤ maxLen) :
    OwnV (w.alloc (.cells (i64V l).toArray e)) base e (.slice (some ⟨w.heap.size, 0, none⟩) l.length l.length) (i64V l) := by
  have := World.ownsRow_lit (base := base) (e := e) (size := 1) w (i64V l).toArray l.length hb hm (by simp)
  simpa [OwnV] using this
/-- 'append(v, x...)' of numbers onto numbers of the call's own, x any slice, nil too. -/
theorem wpList_append_ints {P : Program} {w : World} {ops : Array Oper} {rest : List Oper} {o : Oper} {a : Act} {Q : Exit → Act → World → Prop} (hgd : o.guard = none) (s x : Operand) (t : TypeId)
    (ho : o.op = .call { callee := .builtin .append, args := #[s, x], argTypes := #[t, t] })
    (base : Nat) (e : TypeId) (ht : P.underlying t = some (.slice e)) (hi : (P.info? e).map (fun i => (i.zero, i.size, i.bytes)) = some (some (.int .i64 0), 1, 8))
    (v : Value) (l : List Int) (hs : a.eval s = v) (hown : OwnV w base e v (i64V l))
    (B : Nat) (A : Option Addr) (m c : Nat) (l2 : List Int) (hx : a.eval x = .slice A m c) (hc : Row w B A m c 1 (intsC l2)) (hl2 : l2.length = m) (hA : A = none → m = 0 ∧ c = 0)
    (hbytes : l.length + m ≤ 1000000000) (hbase : base ≤ w.heap.size)
    (h : ∀ v' w', OwnV w' base e v' (i64V (l ++ l2)) → w.grownBy w' v.ownBlock → (v'.ownBlock = v.ownBlock ∨ v'.ownBlock = some w.heap.size) → wpList P ops Q rest (a.put o.dst v') w') :
    wpList P ops Q (o :: rest) a w := by
  obtain ⟨i, hi, hz0, hz1, hz2⟩ := info_parts hi
  cases A with
  | none =>
    obtain ⟨hm0, hc0⟩ := hA rfl
    subst hc0 hm0
    have hcs : l2 = [] := List.eq_nil_of_length_eq_zero hl2
    subst hcs
    refine wpList_append_own_none hgd s x t ho base e i 1 ht hi v (i64V l).length (i64V l) hs hown hx ?_
    exact h v w (by simpa using hown) (World.grownBy.refl w _) (.inl rfl)
  | some ad =>
    refine wpList_append_own_at w hgd s x t ho base e i (.int .i64 0) 1 8 ht hi hz0 hz1 hz2 rfl (by decide) v (i64V l).length (i64V l) hs hown ad m c (i64V l2) hx (by rw [List.length_map, hl2]; omega) (hc.news hl2) (i64V_one l2)
      (by unfold maxLen; rw [List.length_map]; omega) (by rw [List.length_map]; omega) hbase ?_
    intro v' w' h1 h2 _ h4
    refine h v' w' ?_ h2 h4
    unfold OwnV
    have e1 : i64V (l ++ l2) = i64V l ++ i64V l2 := List.map_append
    rw [e1, List.length_append, show (i64V l2).length = m by rw [List.length_map, hl2]]
    exact h1
/-- The first ones of a row, and those from one on. -/
theorem Row.take_ {w : World} {B : Nat} {a : Option Addr} {n c : Nat} {l : List Int} (h : Row w B a n c 1 (intsC l)) {k : Nat} (hk : k ≤ n) (hl : l.length = n) : Row w B a k c 1 (intsC (l.take k)) := by
  refine ⟨Nat.le_trans hk h.le, h.max, fun hp => ?_⟩
  obtain ⟨b, o, e, hb, hc⟩ := h.at_ (by omega)
  refine ⟨b, o, e, hb, fun j hj => ?_⟩
  rw [hc j (by omega)]
  simp only [intsC, List.getD_eq_getElem?_getD, List.getElem?_take]
  rw [if_pos (by omega)]
theorem Row.from_ {w : World} {B : Nat} {a : Option Addr} {n c : Nat} {l : List Int} (h : Row w B a n c 1 (intsC l)) {k : Nat} (hk : k ≤ n) (hl : l.length = n) : Row w B (fromA a c k) (n - k) (c - k) 1 (intsC (l.drop k)) := by
  have hle := h.le
  have hmx := h.max
  refine ⟨by omega, by omega, fun hp => ?_⟩
  obtain ⟨b, o, e, hb, hc⟩ := h.at_ (by omega)
  subst e
  have hck : k ≠ c := by omega
  refine ⟨b, o + k, ?_, hb, fun j hj => ?_⟩
  · unfold fromA
    rw [if_neg (by omega)]
    show some (Addr.add ⟨b, o, none⟩ k) = _
    rw [Addr.add_mid]
  · rw [show o + k + j = o + (k + j) by omega, hc (k + j) (by omega)]
    simp only [intsC, List.getD_eq_getElem?_getD, List.getElem?_drop]
/-! Cuts of a slice of one-cell values, in one form whatever the address. -/
section
variable {P : Program} (t e : TypeId) (ht : P.underlying t = some (.slice e)) {z : Value} {by_ : Nat} (hi : (P.info? e).map (fun i => (i.zero, i.size, i.bytes)) = some (some z, 1, by_))
include ht hi
theorem run_cut1_to (a : Option Addr) (len cap k : Nat) (hk : k ≤ cap) (w : World) :
    (Instr.slice t (.slice a len cap) none (some (.int .i64 (k : Int))) none).run P w = .ok (.slice a k cap) w := by
  obtain ⟨i, hi, _, hz1, _⟩ := info_parts hi
  have hs : (sizeOf e).run P w = .ok 1 w := by simp [sizeOf, typeInfo, hi, hz1]
  have ht' : P.underlying t = some (.slice (P.elem t)) := by simp [Program.elem, ht]
  have he : P.elem t = e := by simp [Program.elem, ht]
  rw [run_slice_h w t _ _ _ ht' .i64 _ (by omega) (by omega), he, hs]
  have ha : a.map (fun x => x.add 0) = a := by cases a <;> simp [Addr.add]
  simp [Result.andThen, sliced, ha]
theorem run_cut1_from (a : Option Addr) (len cap k : Nat) (hk : k ≤ len) (w : World) :
    (Instr.slice t (.slice a len cap) (some (.int .i64 (k : Int))) none none).run P w = .ok (.slice (if cap = k then a else a.map (·.add k)) (len - k) (cap - k)) w := by
  obtain ⟨i, hi, _, hz1, _⟩ := info_parts hi
  have hs : (sizeOf e).run P w = .ok 1 w := by simp [sizeOf, typeInfo, hi, hz1]
  have ht' : P.underlying t = some (.slice (P.elem t)) := by simp [Program.elem, ht]
  have he : P.elem t = e := by simp [Program.elem, ht]
  rw [run_slice_l w t _ _ _ ht' .i64 _ (by omega) (by omega), he, hs]
  simp [Result.andThen, sliced]
theorem run_cut1_mid (a : Option Addr) (len cap j k : Nat) (hj : j ≤ k) (hk : k ≤ cap) (w : World) :
    (Instr.slice t (.slice a len cap) (some (.int .i64 (j : Int))) (some (.int .i64 (k : Int))) none).run P w = .ok (.slice (if cap = j then a else a.map (·.add j)) (k - j) (cap - j)) w := by
  obtain ⟨i, hi, _, hz1, _⟩ := info_parts hi
  have hs : (sizeOf e).run P w = .ok 1 w := by simp [sizeOf, typeInfo, hi, hz1]
  have ht' : P.underlying t = some (.slice (P.elem t)) := by simp [Program.elem, ht]
  have he : P.elem t = e := by simp [Program.elem, ht]
  rw [run_slice_lh w t _ _ _ ht' .i64 .i64 _ _ (by omega) (by omega) (by omega), he, hs]
  simp [Result.andThen, sliced]
end
end
section
set_option linter.unusedSimpArgs false
set_option linter.unusedVariables false
open Go.RowKit

theorem wp_append_ints {P : Program} {w : World} {o : Oper} {a : Act} {K : Act → World → Prop} {Q : Exit → Act → World → Prop} (s x : Operand) (t : TypeId)
    (ho : o.op = .call { callee := .builtin .append, args := #[s, x], argTypes := #[t, t] })
    (base : Nat) (e : TypeId) (ht : P.underlying t = some (.slice e)) (hi : (P.info? e).map (fun i => (i.zero, i.size, i.bytes)) = some (some (.int .i64 0), 1, 8))
    (v : Value) (l : List Int) (hs : a.eval s = v) (hown : OwnV w base e v (i64V l))
    (B : Nat) (A : Option Addr) (m c : Nat) (l2 : List Int) (hx : a.eval x = .slice A m c) (hc : Row w B A m c 1 (intsC l2)) (hl2 : l2.length = m) (hA : A = none → m = 0 ∧ c = 0)
    (hbytes : l.length + m ≤ 1000000000) (hbase : base ≤ w.heap.size)
    (h : ∀ v' w', OwnV w' base e v' (i64V (l ++ l2)) → w.grownBy w' v.ownBlock → (v'.ownBlock = v.ownBlock ∨ v'.ownBlock = some w.heap.size) → K (a.put o.dst v') w') :
    o.wp P a w K Q := by
  obtain ⟨i, hi, hz0, hz1, hz2⟩ := info_parts hi
  cases A with
  | none =>
    obtain ⟨hm0, hc0⟩ := hA rfl
    subst hc0 hm0
    have hcs : l2 = [] := List.eq_nil_of_length_eq_zero hl2
    subst hcs
    have hrun := run_append_owned_none (P := P) (w := w) base t o.type e i 1 ht hi v (i64V l).length (i64V l) hown
    unfold Oper.wp
    simp [execOp, ho, resolve, invoke, builtin, hs, hx, hrun, Result.andThen]
    exact h v w (by simpa using hown) (World.grownBy.refl w _) (.inl rfl)
  | some ad =>
    obtain ⟨v', w', hr, h1, h2, h3, h4⟩ := run_append_own_at (P := P) w base t o.type e i (.int .i64 0) 1 8 ht hi hz0 hz1 hz2 rfl (by decide) v (i64V l).length (i64V l) hown ad m c (i64V l2) (by rw [List.length_map, hl2]; omega) (hc.news hl2) (i64V_one l2)
      (by unfold maxLen; rw [List.length_map]; omega) (by rw [List.length_map]; omega) hbase
    unfold Oper.wp execOp
    simp only [ho, resolve, invoke, builtin, Sem.run_bind, Sem.run_pure, Result.andThen_ok, List.map_toArray, List.map_cons, List.map_nil, hs, hx, hr]
    refine h v' w' ?_ h2 h4
    unfold OwnV
    have e1 : i64V (l ++ l2) = i64V l ++ i64V l2 := List.map_append
    rw [e1, List.length_append, show (i64V l2).length = m by rw [List.length_map, hl2]]
    exact h1
end
section
set_option linter.unusedSimpArgs false
set_option linter.unusedVariables false
open Go.RowKit Go.Sort Go.Maps Go.Shelf
open Crc Frm
open Sgn
attribute [local go_sem] Oper.semAt_some

theorem info_i64L : (Tryz.prog.info? 2).map (fun i => (i.zero, i.size, i.bytes)) = some (some (.int .i64 0), 1, 8) := by kernel_rfl
set_option maxHeartbeats 800000 in
theorem clone_ints (a : Option Addr) (n c : Nat) (l : List Int) (w : World) (hr : Row w w.heap.size a n c 1 (intsC l)) (hn : l.length = n) (hnil : a = none → n = 0 ∧ c = 0) (hlen : n ≤ 100000000) :
    Calls Tryz.prog 59 #[.slice a n c] w fun e w' => ∃ v, e = .returned v ∧ OwnV w' w.heap.size 2 v (i64V l) ∧ Below w.heap.size w w' := by
  have qT : ∀ (w : World) (a : Option Addr) (n c n' c' : Nat), (binOp .eql 50 (.slice a n c) (.slice none n' c')).run Tryz.prog w = .ok (.bool a.isNone) w := fun w a n c n' c' => Lib.run_eql_slice_nil w _ _ a n c n' c' Tryz.underlying50
  cases a with
  | none =>
    obtain ⟨h1, h2⟩ := hnil rfl
    subst h1 h2
    have hl : l = [] := List.eq_nil_of_length_eq_zero hn
    subst hl
    go_enter Tryz.func59, Tryz.ntmps59
    go_wp2
    go_ret
    exact ⟨_, rfl, OwnV.nil_ _ _ _, Below.refl _ _⟩
  | some x =>
    have hown0 : OwnV (w.alloc (.cells #[] 2)) w.heap.size 2 (.slice (some ⟨w.heap.size, 0, none⟩) 0 0) (i64V []) := OwnV.lit_ (w := w) 2 [] (Nat.le_refl _) (by decide)
    have hs2 := hr.below ((Below.refl _ w).alloc (Nat.le_refl _) (.cells #[] 2)) (Nat.le_refl _)
    clear hnil
    go_enter Tryz.func59, Tryz.ntmps59
    go_wp2_with (first | (at_builtin; refine wpList_append_ints rfl (.tmp 5) (.tmp 6) 50 rfl w.heap.size _ Tryz.underlying50 info_i64L (.slice (some ⟨w.heap.size, 0, none⟩) 0 0) [] rfl hown0 _ (some x) n c l rfl hs2 hn (by simp) (by simp; omega) (by simp) ?_; intro v1 w3 hown1 hg1 hat1))
    have hB3 : Below w.heap.size w w3 := ((Below.refl _ w).alloc (Nat.le_refl _) _).grown hg1 (by simp) (fun k hk => by simp [Value.ownBlock] at hk; omega)
    rw [List.nil_append] at hown1
    have H := Lib.hid (And.intro hown1 hB3)
    clear hg1 hat1 hown0 hown1 hB3
    go_wp2
    go_ret
    exact ⟨_, rfl, H.out⟩

/-- there: a closure over two boxes. -/
def thereW (w : World) (lp gn n : Nat) : World := (w.alloc (.cells #[.pointer (some ⟨lp, 0, none⟩)] 29)).alloc (.cells #[.slice (some ⟨gn, 0, none⟩) n n] 66)
theorem there_any (lp gn n : Nat) (w : World) :
    Calls Tryz.prog 36 #[.pointer (some ⟨lp, 0, none⟩), .slice (some ⟨gn, 0, none⟩) n n] w fun e w' =>
      e = .returned (.func (.func 90) #[] #[.pointer (some ⟨w.heap.size + 1, 0, none⟩), .pointer (some ⟨w.heap.size, 0, none⟩)]) ∧ w' = thereW w lp gn n := by
  go_enter Tryz.func36, Tryz.ntmps36
  go_wp2
  go_ret
  exact ⟨rfl, rfl⟩
theorem thereW_below (w : World) (lp gn n : Nat) : Below w.heap.size w (thereW w lp gn n) := ((Below.refl _ w).alloc (Nat.le_refl _) _).alloc (by simp) _
theorem thereW_size (w : World) (lp gn n : Nat) : (thereW w lp gn n).heap.size = w.heap.size + 2 := by simp [thereW]
/-- Deletes of all those of some names of which there is a file. -/
theorem deleteThere_any {w0 w : World} {dp lp : Nat} {t : St} {D : Nat → Prop} (hd : DK w0 w dp t D) (c0 : w.cell? ⟨lp, 0, none⟩ = some (.pointer (some ⟨dp, 0, none⟩))) (hlp : ¬ D lp) (names : List (List UInt8)) (gn n : Nat) (hn : names.length = n) (hn0 : n ≤ 1000) (fr : Nat × Nat)
    (hg : w.heap[gn]? = some (.cells ((names.map fun s => Value.string ⟨s.toArray⟩).toArray) 9 fr)) (hgD : ¬ D gn) (hshort : ∀ s ∈ names, shortS s) :
    Calls Tryz.prog 35 #[.pointer (some ⟨lp, 0, none⟩), .func (.func 90) #[] #[.pointer (some ⟨w.heap.size + 1, 0, none⟩), .pointer (some ⟨w.heap.size, 0, none⟩)]] (thereW w lp gn n) fun e w' =>
      e = .returned (.int .i64 (delAll (thereN t [] names) t).1) ∧ Mv w0 w dp D (delAll (thereN t [] names) t).2 w' := by
  have hb5 := thereW_below w lp gn n
  have hs5 := thereW_size w lp gn n
  have hDlt := hd.lt
  have hlt : lp < w.heap.size := block_lt_of_cell c0
  have hgl := lt_of_heap hg
  have hcb : (thereW w lp gn n).cell? ⟨w.heap.size, 0, none⟩ = some (.pointer (some ⟨lp, 0, none⟩)) := by unfold thereW; simp [go_sem]
  have hcn : (thereW w lp gn n).cell? ⟨w.heap.size + 1, 0, none⟩ = some (.slice (some ⟨gn, 0, none⟩) n n) := by unfold thereW; simp [go_sem]
  have hrow : Row w w.heap.size (some ⟨gn, 0, none⟩) n n 1 (nmC names) := by
    refine Row.new hg (fun j hj => ?_) (by unfold maxLen; omega)
    have hj' : j < names.length := by omega
    rw [List.getElem?_toArray, List.getElem?_map, List.getElem?_eq_getElem hj']
    simp [nmC, List.getD_eq_getElem?_getD, List.getElem?_eq_getElem hj']
  refine (deleteAll_any (hd.on hb5) ((hb5.cell (p := ⟨lp, 0, none⟩) hlt).trans c0) hlp 90 _ (thereN t [] names) (fun args x => enters_of Tryz.func90 (by kernel_rfl) rfl args x) (fun W hW => ?_)).mono fun e w' ⟨he, hm⟩ => ⟨he, Mv.then (But.of_below hb5) (fun _ hk => .inl hk) hm⟩
  have hbW := hb5.trans (hW.mono hb5.size)
  refine there_tells names (some ⟨gn, 0, none⟩) n n hn hshort ((hW.cell (p := ⟨w.heap.size, 0, none⟩) (by show w.heap.size < _; omega)).trans hcb) ((hW.cell (p := ⟨w.heap.size + 1, 0, none⟩) (by show w.heap.size + 1 < _; omega)).trans hcn) ((hbW.cell (p := ⟨lp, 0, none⟩) hlt).trans c0)
    ((hrow.below hbW (Nat.le_refl _)).more hbW.size) (fun h => by have := hDlt _ h; omega) (fun h => by have := hDlt _ h; omega) hlp (fun k o e => by injection e with e; injection e with e1; rw [← e1]; exact hgD)
/-- Of one name that is the log's drop. -/
theorem there_one (t : St) (s : List UInt8) : delAll (thereN t [] [s]) t = t.drop s := by
  unfold thereN St.drop
  show delAll (if t.has s = true then _ else thereN t [] []) t = _
  by_cases h : t.has s = true
  · rw [if_pos h, if_pos h]
    show thenSt (t.delete s) (fun t => (0, t)) = _
    unfold thenSt
    split
    · rfl
    · rename_i h0
      rw [Decidable.not_not] at h0
      exact Prod.ext h0.symm rfl
  · rw [if_neg h, if_neg h]
    rfl
end
section
set_option linter.unusedSimpArgs false
set_option linter.unusedVariables false
open Go.RowKit Go.Sort Go.Maps Go.Shelf
open Crc Frm
open Sgn
attribute [local go_sem] Oper.semAt_some

theorem fcells_append (ts ts2 : List FC) : fcells (ts ++ ts2) = fcells ts ++ fcells ts2 := by simp [fcells]
/-- 'append(l, more...)' of frames onto frames of the call's own. -/
theorem wpList_append_frs {w : World} {ops : Array Oper} {rest : List Oper} {o : Oper} {a : Act} {Q : Exit → Act → World → Prop} (hgd : o.guard = none) (s x : Operand)
    (ho : o.op = .call { callee := .builtin .append, args := #[s, x], argTypes := #[46, 46] })
    (base base2 : Nat) (v v2 : Value) (ts ts2 : List FC) (hs : a.eval s = v) (hx : a.eval x = v2)
    (hown : OwnF w base v ts) (hown2 : OwnF w base2 v2 ts2) (hbn : ∀ t ∈ ts2, ∀ b o, t.2.1 = some ⟨b, o, none⟩ → some b ≠ v.ownBlock) (hn : ts.length + ts2.length ≤ 200000000) (hbase : base ≤ w.heap.size)
    (h : ∀ v' w', OwnF w' base v' (ts ++ ts2) → w.grownBy w' v.ownBlock → (v'.ownBlock = v.ownBlock ∨ v'.ownBlock = some w.heap.size) → wpList Tryz.prog ops Q rest (a.put o.dst v') w') :
    wpList Tryz.prog ops Q (o :: rest) a w := by
  obtain ⟨i, hi, hz0, hz1, hz2⟩ := info_parts info_frame
  rcases hown2.own.2 with ⟨hv2, h0⟩ | ⟨g, cap, cur, hv2, hb, hh, hle, hc, hsz, htk⟩
  · have hts : ts2 = [] := List.eq_nil_of_length_eq_zero h0
    subst hts
    rw [hv2] at hx
    refine wpList_append_own_none hgd s x 46 ho base 65 i 3 Tryz.underlying46 hi v ts.length (fcells ts) hs hown.own hx ?_
    exact h v w (by simpa using hown) (World.grownBy.refl w _) (.inl rfl)
  · rw [hv2] at hx
    have hown3 := hown2.own
    rw [hv2] at hown3
    refine wpList_append_own_at w hgd s x 46 ho base 65 i (.agg #[.int .i64 0, .int .i64 0, .slice none 0 0]) 3 40 Tryz.underlying46 hi hz0 hz1 hz2 rfl (by decide) v ts.length (fcells ts) hs hown.own ⟨g, 0, none⟩ ts2.length cap (fcells ts2) hx (fcells_len ts2) ?_ ?_ (by unfold maxLen; omega) (by omega) hbase ?_
    · intro j u hj
      have hj3 : j < (fcells ts2).length := (List.getElem?_eq_some_iff.1 hj).1
      rw [fcells_len] at hj3
      rw [Addr.add_mid, Nat.zero_add, World.ownsRow.cellAt hown3 j hj3, hj]
    · intro u hu
      obtain ⟨t, _, ht⟩ := List.mem_flatMap.1 hu
      simp at ht
      rcases ht with rfl | rfl | rfl <;> rfl
    · intro v' w' h1 h2 _ h4
      refine h v' w' ⟨by rw [List.length_append, fcells_append]; exact h1, ?_⟩ h2 h4
      have key : ∀ (x : FC), (Sl w w.heap.size x.2.1 x.1.body.length x.2.2 x.1.body ∧ (0 < x.1.body.length → ∀ b o, x.2.1 = some ⟨b, o, none⟩ → some b ≠ v.ownBlock)) →
          Sl w' w'.heap.size x.2.1 x.1.body.length x.2.2 x.1.body ∧ (0 < x.1.body.length → ∀ b o, x.2.1 = some ⟨b, o, none⟩ → some b ≠ v'.ownBlock) := by
        rintro x ⟨hx, hne⟩
        refine ⟨(hx.kept h2 hne).more h2.size, fun hp b o e => ?_⟩
        rcases h4 with h4 | h4
        · rw [h4]; exact hne hp b o e
        · rw [h4]
          obtain ⟨b', o', e', hlt, _⟩ := hx.at_ hp
          rw [e] at e'
          injection e' with e'
          injection e' with e'
          intro hx
          injection hx with hx
          omega
      intro x hx
      rcases List.mem_append.1 hx with hx | hx
      · exact key x (hown.bodies x hx)
      · exact key x ⟨(hown2.bodies x hx).1, fun _ b o e => hbn x hx b o e⟩
section
variable {w0 w : World} {dp lp size : Nat} {g : Lg} {t : St} {D : Nat → Prop} {sa : Option Addr} {sc : Nat}
theorem LK.onB {w' : World} (h : LK w0 w dp lp size g t D sa sc) (hb : Below w.heap.size w w') : LK w0 w' dp lp size g t D sa sc := h.on hb
theorem lgnext_any (h : LK w0 w dp lp size g t D sa sc) : Calls Tryz.prog 18 #[.pointer (some ⟨lp, 0, none⟩)] w fun e w' => e = .returned (.int .i64 g.next) ∧ w' = w := by
  have c3 := h.at_.c3
  clear h
  go_enter Tryz.func18, Tryz.ntmps18
  go_wp2
  go_ret
  exact ⟨rfl, rfl⟩
theorem segments_any (h : LK w0 w dp lp size g t D sa sc) (hlen : g.segs.length ≤ 1000) : Calls Tryz.prog 21 #[.pointer (some ⟨lp, 0, none⟩)] w fun e w' => ∃ v, e = .returned v ∧ OwnV w' w.heap.size 2 v (i64V g.segs) ∧ Below w.heap.size w w' := by
  have c2 := h.at_.c2
  have CL := Lib.hid (clone_ints sa g.segs.length sc g.segs w h.at_.row rfl h.at_.nil_ (by omega))
  clear h
  generalize i64V g.segs = l at *
  go_enter Tryz.func21, Tryz.ntmps21
  go_wp2_with fail
  refine CL.out.mono ?_
  rintro e w2 ⟨v, rfl, hv⟩
  have HV := Lib.hid hv
  clear hv CL
  go_wp2
  go_ret
  exact ⟨v, rfl, HV.out⟩
/-- The frames of the first ones. -/
def lgFr (t : St) (l : List Int) : List Fr := l.flatMap fun x => (rd (t.bytes (nm x))).2.1
theorem lgFr_snoc (t : St) (l : List Int) (x : Int) : lgFr t (l ++ [x]) = lgFr t l ++ (rd (t.bytes (nm x))).2.1 := by simp [lgFr]
theorem scanN_many : ∀ (k : Nat) (bs : List Nat) (first : Int), (scanN k bs first).1.length ≤ k
  | 0, _, _ => by simp [scanN]
  | k + 1, bs, first => by
    simp only [scanN]
    split
    · have := scanN_many k (bs.drop (get bs).2.1) (first + 1)
      simp only [List.length_cons]
      omega
    · simp
theorem rd_many (bs : List Nat) : (rd bs).2.1.length ≤ bs.length + 1 := by
  unfold rd
  split
  · simp
  · have := scanN_many ((bs.drop 12).length + 1) (bs.drop 12) ((rh bs).1 : Int)
    rw [List.length_drop] at this
    have e : (scan (bs.drop 12) ((rh bs).1 : Int)) = scanN ((bs.drop 12).length + 1) (bs.drop 12) ((rh bs).1 : Int) := rfl
    rw [List.length_drop] at e
    simp only [e]
    omega
set_option linter.unusedSimpArgs false in
set_option maxRecDepth 100000 in
set_option maxHeartbeats 3200000 in
theorem frames_any (h : LK w0 w dp lp size g t D sa sc) (hL : Laid w0) (hlen : g.segs.length ≤ 100) :
    Calls Tryz.prog 16 #[.pointer (some ⟨lp, 0, none⟩)] w fun e w' => ∃ v ts, e = .returned v ∧ OwnF w' w.heap.size v ts ∧ ts.map (·.1) = lgFrames g t ∧ Below w.heap.size w w' ∧ BB w.heap.size ts := by
  have c2 := h.at_.c2
  have hrow := h.at_.row
  have H := Lib.hid (And.intro h hL)
  obtain ⟨n, hn⟩ : ∃ n, n = g.segs.length := ⟨_, rfl⟩
  rw [← hn] at c2 hrow hlen
  have hrm := hrow.max
  have hrl := hrow.le
  unfold maxLen at hrm
  clear h hL
  go_enter Tryz.func16, Tryz.ntmps16
  go_wp2_with fail
  go_loopw [3, 5, 6, 7, 8, 9, 10, 11, 17, 21, 31] (fun v _ _ _ _ _ _ _ i _ _ wr => ∃ (k : Nat) (ts : List FC) (au : Option Addr) (cu : Nat), k ≤ n ∧ i = .int .i64 (k : Int) ∧ v = .slice au ts.length cu ∧ OwnF wr w.heap.size (.slice au ts.length cu) ts ∧ ts.map (·.1) = lgFr t (g.segs.take k) ∧ ts.length ≤ k * 1100000 ∧ Below w.heap.size w wr ∧ BB w.heap.size ts) (fun _ _ _ _ _ _ _ _ i _ _ _ => n - (intOf i).toNat)
  case atStart => exact ⟨0, [], none, 0, Nat.zero_le _, rfl, rfl, OwnF.nil_ _ _, rfl, by simp, Below.refl _ _, fun t ht => by cases ht⟩
  case round =>
    obtain ⟨k, ts, au, cu, hk, rfl, rfl, ho, hts, htl, hB, hbb⟩ := hrel
    by_cases hlt : k < n
    · have hrw := (hrow.below hB (Nat.le_refl _)).more hB.size
      obtain ⟨b, o, rfl, hb, hc⟩ := hrw.at_ (by omega)
      obtain ⟨x, hx⟩ : ∃ x, x = g.segs.getD k 0 := ⟨_, rfl⟩
      have cx : wr.cell? ⟨b, o + k, none⟩ = some (.int .i64 x) := (hc k (by omega)).trans (by rw [hx])
      have htk : g.segs.take (k + 1) = g.segs.take k ++ [x] := by
        rw [List.take_add_one, hx, List.getD_eq_getElem?_getD, List.getElem?_eq_getElem (by omega)]
        rfl
      have HT : Hid (lgFr t (g.segs.take (k + 1)) = lgFr t (g.segs.take k) ++ (rd (t.bytes (nm x))).2.1) := by
        show _ = _
        rw [htk, lgFr_snoc]
      have hK := H.out.1.onB hB
      have c0 := hK.at_.c0
      have hlt0 := hK.at_.lt
      have NM := Lib.hid (fun y (hy : Below wr.heap.size wr y) => name_any x y ((hK.laid H.out.2).on hy))
      have hby := Lib.hid (fat_byte hK.dk.good (nm x))
      have hbl := bytes_le hK.dk.good (nm x)
      have HO := Lib.hid (And.intro ho (And.intro hts (And.intro hB (And.intro hbb hK))))
      have hsz := nmS_size x
      clear ho hts hB hbb hK hrw hc hx htk hb
      go_wp2_with fail
      refine wp_region_held_drew (S := fun x => x.cell? ⟨lp, 0, none⟩ = some (.pointer (some ⟨dp, 0, none⟩))) (by kernel_rfl) c0 (fun hHeld => ?_)
      refine wpAnyH_take (i := 0) (v := ?_) rfl (by kernel_rfl) (by kernel_rfl) (by kernel_rfl) (fun _ _ _ h => h) (Or.inl ⟨by rfl, ?_⟩) (by assumption) ?_
      rotate_left
      · intro w hSw
        (try dsimp only at hSw)
        go_simp
        all_goals with_reducible rfl
      try simp only [Act.put, List.getElem_toArray, List.getElem_cons_succ, List.getElem_cons_zero, List.setIfInBounds_toArray, List.set_cons_zero, List.set_cons_succ]
      refine wpAnyH_take (i := 1) (v := ?_) rfl (by kernel_rfl) (by kernel_rfl) (by kernel_rfl) (fun _ _ _ h => h) (Or.inl ⟨by rfl, ?_⟩) (by assumption) ?_
      rotate_left
      · intro w hSw
        (try dsimp only at hSw)
        go_simp
        all_goals with_reducible rfl
      try simp only [Act.put, List.getElem_toArray, List.getElem_cons_succ, List.getElem_cons_zero, List.setIfInBounds_toArray, List.set_cons_zero, List.set_cons_succ]
      refine wpAnyH_take (i := 2) (v := ?_) rfl (by kernel_rfl) (by kernel_rfl) (by kernel_rfl) (fun _ _ _ h => h) (Or.inl ⟨by rfl, ?_⟩) (by assumption) ?_
      rotate_left
      · intro w hSw
        (try dsimp only at hSw)
        go_simp
        all_goals with_reducible rfl
      try simp only [Act.put, List.getElem_toArray, List.getElem_cons_succ, List.getElem_cons_zero, List.setIfInBounds_toArray, List.set_cons_zero, List.set_cons_succ]
      refine wpAnyH_take (i := 3) (v := ?_) rfl (by kernel_rfl) (by kernel_rfl) (by kernel_rfl) (fun _ _ _ h => h) (Or.inl ⟨by rfl, ?_⟩) (by assumption) ?_
      rotate_left
      · intro w hSw
        (try dsimp only at hSw)
        go_simp
        all_goals with_reducible rfl
      try simp only [Act.put, List.getElem_toArray, List.getElem_cons_succ, List.getElem_cons_zero, List.setIfInBounds_toArray, List.set_cons_zero, List.set_cons_succ]
      refine wpAnyH_take (i := 4) (v := ?_) rfl (by kernel_rfl) (by kernel_rfl) (by kernel_rfl) (fun _ _ _ h => h) (Or.inl ⟨by rfl, ?_⟩) (by assumption) ?_
      rotate_left
      · intro w hSw
        (try dsimp only at hSw)
        go_simp
        all_goals with_reducible rfl
      try simp only [Act.put, List.getElem_toArray, List.getElem_cons_succ, List.getElem_cons_zero, List.setIfInBounds_toArray, List.set_cons_zero, List.set_cons_succ]
      refine wpAnyH_ready (rs := [5]) (by kernel_rfl) (by simp) ?_
      refine AllReadyH.cons rfl (fun K hK => ?_) AllReadyH.nil
      rw [if_pos (by rfl)]
      go_simp
      go_at_call 55
      refine (NM.out _ (Below.drew (Below.refl _ _))).mono ?_
      rintro e w2 ⟨rfl, hb2⟩
      have B2 : Below wr.heap.size wr w2 := below_drew_of hb2
      clear hb2
      have c02 := (B2.cell (p := ⟨lp, 0, none⟩) hlt0).trans c0
      refine hK.out _ _ ?_ (fun hHeld => ?_)
      · exact c02
      clear hK K
      try simp only [Act.put, List.getElem_toArray, List.getElem_cons_succ, List.getElem_cons_zero, List.setIfInBounds_toArray, List.set_cons_zero, List.set_cons_succ]
      refine wpAnyH_ready (rs := [6]) (by kernel_rfl) (by simp) ?_
      refine AllReadyH.cons rfl (fun K hK => ?_) AllReadyH.nil
      rw [if_pos (by rfl)]
      go_simp
      go_at_call 51
      refine ((HO.out.2.2.2.2.on B2).dk.read ⟨(nm x).toArray⟩ (by unfold maxLen; omega)).mono ?_
      rintro e w3 hN
      change NewBytes w2 (t.bytes (nm x)) (fat t.D (nm x)).isSome _ _ at hN
      change Hid (∀ c ∈ t.bytes (nm x), c < 256) at hby
      generalize (fat t.D (nm x)).isSome = is at *
      have hrd := rd_many (t.bytes (nm x))
      generalize t.bytes (nm x) = bs at *
      obtain ⟨a3, n3, rfl, s3, _, b3⟩ := NewBytes.out (HO.out.2.2.2.2.on B2).dk hN hby.out
      have B3 := B2.trans (b3.mono B2.size)
      have RD := Lib.hid (segRead_anyB a3 bs.length n3 bs w3 s3 (by omega))
      generalize rd bs = r at *
      clear s3 hN hby
      generalize bs.length = q at *
      refine hK.out _ _ ?_ (fun hHeld => ?_)
      · exact (b3.cell (p := ⟨lp, 0, none⟩) (Nat.lt_of_lt_of_le hlt0 B2.size)).trans c02
      clear hK K
      try simp only [Act.put, List.getElem_toArray, List.getElem_cons_succ, List.getElem_cons_zero, List.setIfInBounds_toArray, List.set_cons_zero, List.set_cons_succ]
      refine wpAnyH_take (i := 7) (v := ?_) rfl (by kernel_rfl) (by kernel_rfl) (by kernel_rfl) (fun _ _ _ h => h) (Or.inl ⟨by rfl, ?_⟩) (by assumption) ?_
      rotate_left
      · intro w hSw
        (try dsimp only at hSw)
        go_simp
        all_goals with_reducible rfl
      try simp only [Act.put, List.getElem_toArray, List.getElem_cons_succ, List.getElem_cons_zero, List.setIfInBounds_toArray, List.set_cons_zero, List.set_cons_succ]
      refine wpAnyH_take (i := 8) (v := ?_) rfl (by kernel_rfl) (by kernel_rfl) (by kernel_rfl) (fun _ _ _ h => h) (Or.inl ⟨by rfl, ?_⟩) (by assumption) ?_
      rotate_left
      · intro w hSw
        (try dsimp only at hSw)
        go_simp
        all_goals with_reducible rfl
      try simp only [Act.put, List.getElem_toArray, List.getElem_cons_succ, List.getElem_cons_zero, List.setIfInBounds_toArray, List.set_cons_zero, List.set_cons_succ]
      refine wpAnyH_take (i := 9) (v := ?_) rfl (by kernel_rfl) (by kernel_rfl) (by kernel_rfl) (fun _ _ _ h => h) (Or.inl ⟨by rfl, ?_⟩) (by assumption) ?_
      rotate_left
      · intro w hSw
        (try dsimp only at hSw)
        go_simp
        all_goals with_reducible rfl
      try simp only [Act.put, List.getElem_toArray, List.getElem_cons_succ, List.getElem_cons_zero, List.setIfInBounds_toArray, List.set_cons_zero, List.set_cons_succ]
      refine wpAnyH_take (i := 10) (v := ?_) rfl (by kernel_rfl) (by kernel_rfl) (by kernel_rfl) (fun _ _ _ h => h) (Or.inl ⟨by rfl, ?_⟩) (by assumption) ?_
      rotate_left
      · intro w hSw
        (try dsimp only at hSw)
        go_simp
        all_goals with_reducible rfl
      try simp only [Act.put, List.getElem_toArray, List.getElem_cons_succ, List.getElem_cons_zero, List.setIfInBounds_toArray, List.set_cons_zero, List.set_cons_succ]
      refine wpAnyH_take (i := 11) (v := ?_) rfl (by kernel_rfl) (by kernel_rfl) (by kernel_rfl) (fun _ _ _ h => h) (Or.inl ⟨by rfl, ?_⟩) (by assumption) ?_
      rotate_left
      · intro w hSw
        (try dsimp only at hSw)
        go_simp
        all_goals with_reducible rfl
      try simp only [Act.put, List.getElem_toArray, List.getElem_cons_succ, List.getElem_cons_zero, List.setIfInBounds_toArray, List.set_cons_zero, List.set_cons_succ]
      refine wpAnyH_done (by kernel_rfl) ?_ _
      have H3 := Lib.hid B3
      have hB3s := B3.size
      clear B3 B2 b3 c02 c0 hHeld NM cx
      go_wp2_with fail
      refine RD.out.mono ?_
      rintro e w4 ⟨v4, ts4, rfl, ho4, hts4, hb4, hbb4⟩
      have ho1 := (HO.out.1.below H3.out).below hb4
      have hl4 : ts4.length = r.2.1.length := by rw [← hts4, List.length_map]
      have hob : ∀ q, (Value.slice au ts.length cu).ownBlock = some q → q < wr.heap.size := fun q hq => (HO.out.1.at_base hq).2
      have H4 := Lib.hid (And.intro ho1 (And.intro ho4 (And.intro hts4 (And.intro hb4 hbb4))))
      have hbn : ∀ t ∈ ts4, ∀ b o, t.2.1 = some ⟨b, o, none⟩ → some b ≠ (Value.slice au ts.length cu).ownBlock := fun t ht b o e h => by
        have h1 := hbb4 t ht b o e
        have h2 := hob b h.symm
        omega
      have HBN := Lib.hid hbn
      have hww : w.heap.size ≤ w4.heap.size := Nat.le_trans HO.out.2.2.1.size (Nat.le_trans hB3s hb4.size)
      clear ho1 ho4 hts4 hb4 hbb4 hob hbn RD
      go_wp2_with (at_builtin; refine wpList_append_frs rfl (.tmp 38) (.tmp 39) rfl w.heap.size w3.heap.size (.slice au ts.length cu) v4 ts ts4 (by rfl) (by rfl) H4.out.1 H4.out.2.1 HBN.out (by omega) hww ?_; intro v5 w5 ho5 hg5 hat5)
      have hB5 : Below w.heap.size w w5 := ((HO.out.2.2.1.trans (H3.out.mono HO.out.2.2.1.size)).trans (H4.out.2.2.2.1.mono (Nat.le_trans HO.out.2.2.1.size hB3s))).grown hg5 hww (fun q hq => (HO.out.1.at_base hq).1)
      obtain ⟨a5, c5, hv5, _⟩ := ho5.frs
      subst hv5
      have H5 := Lib.hid (And.intro ho5 hB5)
      clear ho5 hg5 hat5 hB5
      go_wp2
      go_roundw
      case rel =>
        refine ⟨k + 1, ts ++ ts4, a5, c5, by omega, by go_num, rfl, H5.out.1, ?_, by rw [List.length_append]; omega, H5.out.2, fun t ht b o e => ?_⟩
        · rw [List.map_append, HO.out.2.1, H4.out.2.2.1, HT.out]
        · rcases List.mem_append.1 ht with ht | ht
          · exact HO.out.2.2.2.1 t ht b o e
          · exact Nat.le_trans HO.out.2.2.1.size (Nat.le_trans hB3s (H4.out.2.2.2.2 t ht b o e))
      case measure => simp [intOf]; omega
    · have hkn : k = n := by omega
      subst hkn
      have HO := Lib.hid (And.intro ho (And.intro hts (And.intro hB hbb)))
      clear ho hts hB hbb
      go_wp2
      go_ret
      exact ⟨_, ts, rfl, HO.out.1, by rw [HO.out.2.1, hn, List.take_length]; rfl, HO.out.2.2⟩
end
end
end Go.Proofs.YtechgmohdabkpaaGreatDoor
