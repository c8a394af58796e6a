/- Spots in memory; slices.Backward; the program's begin. -/
import Derived.Test.YtiiellclnmakpaaDoorSgS
import Derived.RangeFuncNested
import Derived.RangeFuncLeaves
import Derived.Shelf.Abstract
import Derived.OwnWalkIn
import Derived.TacticsInMore
import Derived.LoopNIn
import Derived.LoopIn
namespace Go.Proofs.YtiiellclnmakpaaDoor
open Go.RowKit Go.Shelf
open Crc Frm
attribute [local go_sem] Oper.semAt_some

/-- A slice of spots that lies below block B. -/
structure Spts (w : World) (B : Nat) (a : Option Addr) (len cap : Nat) (l : List (Int × Int)) : Prop where
  length : l.length = len
  le : len ≤ cap
  max : cap ≤ maxLen
  at_ : 0 < len → ∃ b o, a = some ⟨b, o, none⟩ ∧ b < B ∧ ∀ (k : Nat) (x : Int × Int), l[k]? = some x → w.cell? ⟨b, o + k * 2, none⟩ = some (.int .i64 x.1) ∧ w.cell? ⟨b, o + k * 2 + 1, none⟩ = some (.int .i64 x.2)
theorem Spts.below {w w' : World} {B B' : Nat} {a : Option Addr} {len cap : Nat} {l : List (Int × Int)} (h : Spts w B a len cap l) (hb : Below B' w w') (hB : B ≤ B') : Spts w' B' a len cap l :=
  ⟨h.length, h.le, h.max, fun hp => by
    obtain ⟨b, o, e, hlt, hc⟩ := h.at_ hp
    refine ⟨b, o, e, by omega, fun k x hx => ?_⟩
    obtain ⟨h1, h2⟩ := hc k x hx
    exact ⟨(hb.cell (p := ⟨b, o + k * 2, none⟩) (by show b < B'; omega)).trans h1, (hb.cell (p := ⟨b, o + k * 2 + 1, none⟩) (by show b < B'; omega)).trans h2⟩⟩
theorem Spts.more {w : World} {B B' : Nat} {a : Option Addr} {len cap : Nat} {l : List (Int × Int)} (h : Spts w B a len cap l) (hB : B ≤ B') : Spts w B' a len cap l := h.below (Below.refl _ _) hB

/-- What has come when k rounds are over: from behind. -/
def bk (l : List (Int × Int)) (k : Nat) : List (Nat × (Int × Int)) := (List.range k).map fun j => (l.length - 1 - j, l.getD (l.length - 1 - j) (0, 0))
theorem bk_succ (l : List (Int × Int)) (k : Nat) : bk l (k + 1) = bk l k ++ [(l.length - 1 - k, l.getD (l.length - 1 - k) (0, 0))] := by simp [bk, List.range_succ]
theorem bk_length (l : List (Int × Int)) (k : Nat) : (bk l k).length = k := by simp [bk]

/-- What a round keeps: all below n₀, and one box. -/
def Kpt (n₀ B : Nat) (t : TypeId) (X Y : World) : Prop := Below n₀ X Y ∧ ∀ v, Boxed X B t v → Boxed Y B t v
theorem Kpt.trans {n₀ B : Nat} {t : TypeId} {X Y Z : World} (h : Kpt n₀ B t X Y) (k : Kpt n₀ B t Y Z) : Kpt n₀ B t X Z := ⟨h.1.trans k.1, fun v hv => k.2 v (h.2 v hv)⟩
theorem Kpt.book {n₀ B : Nat} {t : TypeId} {w : World} (hn : n₀ ≤ w.heap.size) (W : World) (l : Nat) (o o' : Obj) (hl : w.heap.size ≤ l) (h : W.heap[l]? = some o) (h1 : o.isCells = false) (h2 : o.isWalk = false) : Kpt n₀ B t W (W.putObj l o') :=
  ⟨belowK_b hn W l o o' hl h h1 h2, fun v hv => hv.kept (grownBy_putObj' W l o') (fun e => by
    injection e with e
    subst e
    rw [show W.heap[B]? = _ from hv] at h
    injection h with h
    subst h
    cases h1)⟩
theorem Kpt.refl (n₀ B : Nat) (t : TypeId) (X : World) : Kpt n₀ B t X X := ⟨Below.refl _ _, fun _ h => h⟩

set_option maxRecDepth 100000 in
set_option maxHeartbeats 2000000 in
theorem back1_in (F : Fence) (n : Nat) (hF : F.fn 71) (hro : F.round = none) (hn : 1 ≤ n) (l Bs n₀ : Nat) (a : Option Addr) (len cap : Nat) (xs : List (Int × Int)) (hl : len ≤ 100000) (J Jx : List (Nat × (Int × Int)) → World → Prop)
    (hY : ∀ pre (x : Nat × (Int × Int)) W, J pre W → pre.length < len → YieldAt F (n - 1) Tryd.prog l #[.int .i64 (x.1 : Int), .agg #[.int .i64 x.2.1, .int .i64 x.2.2]] W fun e W' =>
      (e = .returned (.bool true) ∧ J (pre ++ [x]) W' ∧ Kpt n₀ Bs 37 W W') ∨ (e = .returned (.bool false) ∧ Jx (pre ++ [x]) W'))
    (W : World) (hBs : Boxed W Bs 37 (.slice a len cap)) (hc : Spts W n₀ a len cap xs) (h0 : J [] W) :
    CallsIn F n Tryd.prog 71 #[.func (.yield l) #[] #[], .pointer (some ⟨Bs, 0, none⟩)] W fun e W' => (∃ v, e = .returned v) ∧
      ((∃ ys, ys = bk xs len ∧ J ys W') ∨ (∃ pre, (∃ k, k ≤ len ∧ pre = bk xs k) ∧ Jx pre W')) := by
  refine callsIn_of_wp Tryd.func71 rfl hF ?_ hro
  simp only [Tryd.ntmps71, List.size_toArray, List.length_cons, List.length_nil, Nat.reduceAdd, Nat.reduceSub, Array.replicate_succ, Array.replicate_zero, List.push_toArray, List.append_toArray, List.nil_append, List.cons_append]
  have hB0 := hBs.cell
  gi_wp2
  gi_loopw [3] (fun i wr => ∃ k : Nat, k ≤ len ∧ i = .int .i64 ((len : Int) - 1 - (k : Int)) ∧ J (bk xs k) wr ∧ Kpt n₀ Bs 37 W wr)
    (fun i _ => (intOf i + 1).toNat)
  case atStart => exact ⟨0, Nat.zero_le _, by simp, h0, Kpt.refl _ _ _ _⟩
  case round =>
    obtain ⟨k, hk, rfl, hJs, hnx⟩ := hrel
    have hB1 := (hnx.2 _ hBs).cell
    by_cases hlt : k < len
    · obtain ⟨b, o, rfl, hb, hcc⟩ := (hc.below hnx.1 (Nat.le_refl _)).at_ (by omega)
      have hxl := hc.length
      have hx : xs[len - 1 - k]? = some (xs.getD (len - 1 - k) (0, 0)) := by rw [List.getD_eq_getElem?_getD, List.getElem?_eq_getElem (by omega)]; rfl
      obtain ⟨hc1, hc2⟩ := hcc _ _ hx
      have hs := bk_succ xs k
      rw [hxl] at hs
      generalize xs.getD (len - 1 - k) (0, 0) = x at hc1 hc2 hs
      have HS := Lib.hid hs
      obtain ⟨q, hq⟩ : ∃ q, q = len - 1 - k := ⟨_, rfl⟩
      rw [← hq] at hc1 hc2 HS
      have hqi : (len : Int) - 1 - (k : Int) = (q : Int) := by omega
      rw [hqi]
      have hq1 : (q : Int) < (len : Int) := by omega
      have Hq := Lib.hid hq
      obtain ⟨fn, tmps, assign, body, hy, hR⟩ := hY _ (q, x) wr hJs (by rw [bk_length]; exact hlt)
      dsimp only at hy
      clear hcc hx hs hq hqi hc
      gi_wp2
      refine hR.mono ?_
      rintro e W3 (⟨rfl, hJ3, hk3⟩ | ⟨rfl, hJx3⟩)
      · gi_wp2
        go_roundw
        case rel => exact ⟨k + 1, by omega, by have := Hq.out; go_num, by rw [HS.out]; exact hJ3, hnx.trans hk3⟩
        case measure => simp [intOf]
      · gi_wp2
        refine bodyPost_ret (results_none rfl _ _ _) rfl ?_
        exact ⟨⟨_, rfl⟩, .inr ⟨_, ⟨k + 1, by omega, HS.out.symm⟩, hJx3⟩⟩
    · have hkl : k = len := by omega
      subst hkl
      rw [show (k : Int) - 1 - (k : Int) = -1 from by omega]
      gi_wp2
      go_end0
      exact ⟨⟨_, rfl⟩, .inl ⟨_, rfl, hJs⟩⟩
theorem back_in (F : Fence) (n : Nat) (hF : F.fn 50) (hro : F.round = none) (a : Option Addr) (len cap : Nat) (w : World) :
    CallsIn F n Tryd.prog 50 #[.slice a len cap] w fun e w' => e = .returned (.func (.func 71) #[] #[.pointer (some ⟨w.heap.size, 0, none⟩)]) ∧ w' = w.alloc (.cells #[.slice a len cap] 37) := by
  refine callsIn_of_wp Tryd.func50 rfl hF ?_ hro
  simp only [Tryd.ntmps50, List.size_toArray, List.length_cons, List.length_nil, Nat.reduceAdd, Nat.reduceSub, Array.replicate_succ, Array.replicate_zero, List.push_toArray, List.append_toArray, List.nil_append, List.cons_append]
  gi_wp2
  go_ret
  exact ⟨rfl, rfl⟩
theorem back_stops (F : Fence) (n : Nat) (hF : F.fn 71) (hro : F.round = none) (hn : 1 ≤ n) (Bs n₀ : Nat) (a : Option Addr) (len cap : Nat) (xs : List (Int × Int)) (hl : len ≤ 100000) (w : World) (hn₀ : n₀ ≤ w.heap.size)
    (hBs : Boxed w Bs 37 (.slice a len cap)) (hc : Spts w n₀ a len cap xs) :
    SeqStopsK F n Tryd.prog 71 #[.pointer (some ⟨Bs, 0, none⟩)] (fun x : Nat × (Int × Int) => #[Value.int .i64 (x.1 : Int), .agg #[.int .i64 x.2.1, .int .i64 x.2.2]]) (Kpt n₀ Bs 37)
      (fun ys => ys = bk xs len) (fun pre => ∃ k, k ≤ len ∧ pre = bk xs k) len w := fun l J Jx W hW _ _ hY h0 => by
  have h1 : Boxed W Bs 37 (.slice a len cap) := (hW.block Bs hBs.lt).trans hBs
  exact back1_in F n hF hro hn l Bs n₀ a len cap xs hl J Jx hY W h1 (hc.below (hW.mono hn₀) (Nat.le_refl _)) h0

/-- What begin tells: the last spot whose number isn't above, or that there is none. -/
def Bg (l : List (Int × Int)) (seq at_ : Int) (is : Bool) : Prop :=
  (is = true ∧ ∃ (k : Nat) (x : Int × Int), l[k]? = some x ∧ x.1 ≤ seq ∧ at_ = x.2 ∧ ∀ (j : Nat) (y : Int × Int), k < j → l[j]? = some y → seq < y.1) ∨
  (is = false ∧ at_ = 0 ∧ ∀ (j : Nat) (y : Int × Int), l[j]? = some y → seq < y.1)
theorem mem_bk {l : List (Int × Int)} {k j : Nat} {y : Int × Int} (hk : k ≤ l.length) (h : l[j]? = some y) (hj : l.length < j + 1 + k) : (j, y) ∈ bk l k := by
  have hlt := (List.getElem?_eq_some_iff.1 h).1
  refine List.mem_map.2 ⟨l.length - 1 - j, List.mem_range.2 (by omega), ?_⟩
  have e : l.length - 1 - (l.length - 1 - j) = j := by omega
  rw [e, List.getD_eq_getElem?_getD, h]
  rfl
theorem Bg.none_ {l : List (Int × Int)} {seq : Int} (h : ∀ x ∈ bk l l.length, seq < x.2.1) : Bg l seq 0 false :=
  .inr ⟨rfl, rfl, fun j y hy => h _ (mem_bk (Nat.le_refl _) hy (by have := (List.getElem?_eq_some_iff.1 hy).1; omega))⟩
theorem Bg.some_ {l : List (Int × Int)} {seq : Int} {k : Nat} (hk : k ≤ l.length) {p : List (Nat × (Int × Int))} {x : Nat × (Int × Int)} (e : bk l k = p ++ [x]) (h : ∀ y ∈ p, seq < y.2.1) (hx : x.2.1 ≤ seq) : Bg l seq x.2.2 true := by
  have hl : k = p.length + 1 := by have := congrArg List.length e; rw [bk_length] at this; simpa using this
  subst hl
  rw [bk_succ] at e
  obtain ⟨e1, e2⟩ := List.append_inj' e rfl
  injection e2 with e2
  subst e2
  refine .inl ⟨rfl, l.length - 1 - p.length, _, ?_, hx, rfl, fun j y hj hy => ?_⟩
  · rw [List.getD_eq_getElem?_getD, List.getElem?_eq_getElem (by omega)]; rfl
  · refine h (j, y) ?_
    rw [← e1]
    exact mem_bk (by omega) hy (by have := (List.getElem?_eq_some_iff.1 hy).1; omega)

/-- A block of cells is as it was behind the book-keeping of a loop. -/
theorem cells_kept {X Y : World} {row : Option Nat} {B : Nat} {cs : Array Value} {t : TypeId} {fr : Nat × Nat} (h : X.heap[B]? = some (.cells cs t fr)) (hg : X.grownBy Y row) (hr : ∀ r, row = some r → ∃ o : Obj, X.heap[r]? = some o ∧ o.isCells = false) : Y.heap[B]? = some (.cells cs t fr) :=
  (hg.block B (Array.getElem?_eq_some_iff.1 h).1 (fun e => by
    obtain ⟨o, ho, hc⟩ := hr B e.symm
    rw [h] at ho
    injection ho with ho
    subst ho
    cases hc)).trans h
theorem block_set {W : World} {B B' : Nat} {o : Obj} (h : W.heap[B]? = some o) (hne : B ≠ B') (v : Value) : (W.setCell ⟨B', 0, none⟩ v).heap[B]? = some o := (Below.heap_setCell W ⟨B', 0, none⟩ v B hne).trans h

def BegI (seq : Int) (w : World) (pre : List (Nat × (Int × Int))) (W : World) : Prop :=
  ((((∀ x ∈ pre, seq < x.2.1) ∧ Boxed W w.heap.size 2 (.int .i64 seq)) ∧ Boxed W (w.heap.size + 1) 3 (.int .i64 0)) ∧ Boxed W (w.heap.size + 1 + 1) 4 (.bool false)) ∧ Below w.heap.size w W
def BegX (seq : Int) (w : World) (c : Code) (pre : List (Nat × (Int × Int))) (W : World) : Prop :=
  (c = .ret ∧ ∃ p x, pre = p ++ [x] ∧ (∀ y ∈ p, seq < y.2.1) ∧ x.2.1 ≤ seq ∧ Boxed W (w.heap.size + 1) 3 (.int .i64 x.2.2) ∧ Boxed W (w.heap.size + 1 + 1) 4 (.bool true)) ∧ Below w.heap.size w W
def BegPost (xs : List (Int × Int)) (seq : Int) (w : World) (e : Ending) (w' : World) : Prop :=
  ∃ at_ is, e = .returned (.tuple #[.int .i64 at_, .bool is]) ∧ Bg xs seq at_ is ∧ Below w.heap.size w w'
theorem begI_own (seq : Int) (w : World) (B : Nat) (hB : w.heap.size ≤ B) : OwnFrom B (BegI seq w) :=
  OwnFrom.and (OwnFrom.and (OwnFrom.and (OwnFrom.and (ownFrom_pure _ _) (Own.from (boxed_own _ _ _) _)) (Own.from (boxed_own _ _ _) _)) (Own.from (boxed_own _ _ _) _)) (ownFrom_below (Nat.le_refl _) hB)
theorem begX_own (seq : Int) (w : World) (B : Nat) (hB : w.heap.size ≤ B) (c : Code) : OwnFrom B (BegX seq w c) :=
  OwnFrom.and (fun s X Y row h hg hr => by
      obtain ⟨e0, p, x, e1, e2, e3, e4, e5⟩ := h
      exact ⟨e0, p, x, e1, e2, e3, boxed_own _ _ (fun (_ : Unit) => Value.int .i64 x.2.2) () X Y row e4 hg (fun r e => (hr r e).2), boxed_own _ _ (fun (_ : Unit) => Value.bool true) () X Y row e5 hg (fun r e => (hr r e).2)⟩) (ownFrom_below (Nat.le_refl _) hB)
theorem begI_step {seq : Int} {pre : List (Nat × (Int × Int))} {x : Nat × (Int × Int)} (hp : ∀ y ∈ pre, seq < y.2.1) (hx : seq < x.2.1) : ∀ y ∈ pre ++ [x], seq < y.2.1 := by
  intro y hy
  rcases List.mem_append.1 hy with h | h
  · exact hp y h
  · simp at h
    subst h
    exact hx

set_option maxRecDepth 100000 in
set_option maxHeartbeats 4000000 in
theorem begin_in (F : Fence) (n : Nat) (hf : F.fn 33) (hfb : F.fn 50) (hfc : F.fn 71) (hro : F.round = none) (hn : 6 ≤ n)
    (a : Option Addr) (len cap : Nat) (xs : List (Int × Int)) (hl : len ≤ 100000) (seq : Int) (w : World) (hs : Spts w w.heap.size a len cap xs) :
    CallsIn F n Tryd.prog 33 #[.slice a len cap, .int .i64 seq] w fun e w' => BegPost xs seq w e w' := by
  have h1 : 1 ≤ n := by omega
  refine callsIn_of_wp_marks Tryd.func33 rfl hf ?_ hro
  simp only [Tryd.ntmps33, List.size_toArray, List.length_cons, List.length_nil, Nat.reduceAdd, Nat.reduceSub, Array.replicate_succ, Array.replicate_zero, List.push_toArray, List.append_toArray, List.nil_append, List.cons_append]
  gi_wp2_with (gi_at_call 50; refine (back_in F (n - 1) hfb hro _ _ _ _).mono ?_; rintro e w' ⟨rfl, rfl⟩)
  have bS := (((Boxed.new w 2 (.int .i64 seq)).alloc (.cells #[.int .i64 0] 3)).alloc (.cells #[.bool false] 4)).alloc (.cells #[.slice a len cap] 37)
  have bA := ((Boxed.new (w.alloc (.cells #[.int .i64 seq] 2)) 3 (.int .i64 0)).alloc (.cells #[.bool false] 4)).alloc (.cells #[.slice a len cap] 37)
  have bI := (Boxed.new ((w.alloc (.cells #[.int .i64 seq] 2)).alloc (.cells #[.int .i64 0] 3)) 4 (.bool false)).alloc (.cells #[.slice a len cap] 37)
  have bL := Boxed.new (((w.alloc (.cells #[.int .i64 seq] 2)).alloc (.cells #[.int .i64 0] 3)).alloc (.cells #[.bool false] 4)) 37 (.slice a len cap)
  simp only [World.size_alloc] at bA bI bL
  have hB0 : Below w.heap.size w ((((w.alloc (.cells #[.int .i64 seq] 2)).alloc (.cells #[.int .i64 0] 3)).alloc (.cells #[.bool false] 4)).alloc (.cells #[.slice a len cap] 37)) :=
    ((((Below.refl _ w).alloc (Nat.le_refl _) _).alloc (by simp) _).alloc (by simp; omega) _).alloc (by simp; omega) _
  have hsz : ((((w.alloc (.cells #[.int .i64 seq] 2)).alloc (.cells #[.int .i64 0] 3)).alloc (.cells #[.bool false] 4)).alloc (.cells #[.slice a len cap] 37)).heap.size = w.heap.size + 4 := by simp
  obtain ⟨W0, hW0⟩ : ∃ W0, (((w.alloc (.cells #[.int .i64 seq] 2)).alloc (.cells #[.int .i64 0] 3)).alloc (.cells #[.bool false] 4)).alloc (.cells #[.slice a len cap] 37) = W0 := ⟨_, rfl⟩
  rw [hW0] at bS bA bI bL hB0 hsz ⊢
  clear hW0
  refine wpIn_rangeFunc_ownH hro h1 (gf := 71) (lb := #[.pointer (some ⟨w.heap.size + 1 + 1 + 1, 0, none⟩)]) rfl hfc (enters_of Tryd.func71 (by kernel_rfl) rfl)
    (back_stops F (n - 1) hfc hro (by omega) (w.heap.size + 1 + 1 + 1) w.heap.size a len cap xs hl W0 (by omega) bL (hs.below hB0 (Nat.le_refl _))) Kpt.trans (Kpt.book (by omega)) (Below.refl _ _) (fun _ => rfl)
    (BegI seq w)
    (BegX seq w)
    (begI_own seq w _ (by omega)) (begX_own seq w _ (by omega))
    ⟨⟨⟨⟨by simp, bS⟩, bA⟩, bI⟩, hB0⟩
    (fun x a' W => ∃ Bx, w.heap.size + 1 + 1 < Bx ∧ W.heap[Bx]? = some (.cells #[.int .i64 x.2.1, .int .i64 x.2.2] 43 (0, 0)) ∧ a' = { tmps := #[.slice a len cap, .int .i64 seq, undef, .pointer (some ⟨w.heap.size, 0, none⟩), .pointer (some ⟨w.heap.size + 1, 0, none⟩), .pointer (some ⟨w.heap.size + 1 + 1, 0, none⟩), undef, .pointer (some ⟨Bx, 0, none⟩), .slice a len cap, .func (.func 71) #[] #[.pointer (some ⟨w.heap.size + 1 + 1 + 1, 0, none⟩)], .int .i64 (x.1 : Int), .agg #[.int .i64 x.2.1, .int .i64 x.2.2], undef, undef, undef, undef, undef, undef], defers := [] })
    (fun x a' _ X Y row h hg hr => by obtain ⟨Bx, e1, e2, e3⟩ := h; exact ⟨Bx, e1, cells_kept e2 hg (fun r e => (hr r e).2), e3⟩)
    ?assign ?body ?done ?stop
  case assign =>
    rintro l pre x W K ⟨⟨⟨⟨hp, b1⟩, b2⟩, b3⟩, hB1⟩ hK
    gi_wp2
    refine hK _ _ ((KeepsOthers.alloc _ _).from _) ⟨(Below.refl _ W).alloc hB1.size _, fun v hv => hv.alloc _⟩ ⟨⟨⟨⟨hp, b1.alloc _⟩, b2.alloc _⟩, b3.alloc _⟩, hB1.alloc hB1.size _⟩ ⟨W.heap.size, b3.lt, heap_alloc_new W _, rfl⟩
  case body =>
    rintro l pre x a' W _ _ ⟨⟨⟨⟨hp, b1⟩, b2⟩, b3⟩, hB1⟩ ⟨Bx, hBx, hX, rfl⟩ _
    have c0 := (cell_of_row W Bx 0 _ _ _ hX).trans rfl
    have c1 := (cell_of_row W Bx 1 _ _ _ hX).trans rfl
    have cs := b1.cell
    have ca := b2.cell
    have fa := b2.frozen
    have ci := b3.cell
    have fi := b3.frozen
    by_cases hle : x.2.1 ≤ seq
    · have hd : decide (x.2.1 ≤ seq) = true := by simpa using hle
      have Hl := Lib.hid hle
      clear hle
      gi_wp2
      exact ⟨((KeepsOthers.setCell _ _ _).trans (KeepsOthers.setCell _ _ _)).from _, ⟨rfl, pre, x, rfl, hp, Hl.out, (b2.set _).other (by omega) _, (b3.other (by omega) _).set _⟩, (hB1.setCell (p := ⟨w.heap.size + 1, 0, none⟩) (by simp) _).setCell (p := ⟨w.heap.size + 1 + 1, 0, none⟩) (by simp; omega) _⟩
    · have hd : decide (x.2.1 ≤ seq) = false := by simpa using hle
      have Hl := Lib.hid (show seq < x.2.1 by omega)
      clear hle
      gi_wp2
      exact ⟨KeepsFrom.refl _ _, Kpt.refl _ _ _ _, ⟨⟨⟨begI_step hp Hl.out, b1⟩, b2⟩, b3⟩, hB1⟩
  case done =>
    rintro D ys W hD rfl ⟨⟨⟨⟨hp, b1⟩, b2⟩, b3⟩, hB1⟩ hK
    have ca := b2.cell
    have fa := b2.frozen
    have ci := b3.cell
    have fi := b3.frozen
    gi_wp2
    have hK' := ((KeepsOthers.setCell W ⟨w.heap.size + 1, 0, none⟩ (.int .i64 0)).trans (KeepsOthers.setCell _ ⟨w.heap.size + 1 + 1, 0, none⟩ (.bool false))).same D _ hK rfl
    refine ⟨by simp, .inl ⟨_, _, rfl, run_takeDeferred hK', ?_⟩⟩
    have hca := cell_kept (((b2.set (.int .i64 0)).other (B' := w.heap.size + 1 + 1) (by omega) (.bool false)).cell) (grownBy_putObj' _ D (.deferred none)) (fun r e => by cases e; exact ⟨_, hK', rfl⟩)
    have hci := cell_kept (((b3.other (B' := w.heap.size + 1) (by omega) (.int .i64 0)).set (.bool false)).cell) (grownBy_putObj' _ D (.deferred none)) (fun r e => by cases e; exact ⟨_, hK', rfl⟩)
    refine ⟨.tuple #[.int .i64 0, .bool false], ?_, ⟨_, _, rfl, Bg.none_ (by rw [hs.length]; exact hp), ((hB1.setCell (p := ⟨w.heap.size + 1, 0, none⟩) (by simp) _).setCell (p := ⟨w.heap.size + 1 + 1, 0, none⟩) (by simp; omega) _).trans (belowK_b (w := w) (Nat.le_refl _) _ D _ _ (by omega) hK' rfl rfl)⟩⟩
    simp [results, Tryd.results33, go_sem, hca, hci]
  case stop =>
    rintro D c pre W hD ⟨k, hk, rfl⟩ ⟨⟨rfl, p, x, e1, e2, e3, b2, b3⟩, hB1⟩ hK
    gi_wp2
    refine ⟨by simp, .inl ⟨_, _, rfl, run_takeDeferred hK, ?_⟩⟩
    have hca := cell_kept b2.cell (grownBy_putObj' _ D (.deferred none)) (fun r e => by cases e; exact ⟨_, hK, rfl⟩)
    have hci := cell_kept b3.cell (grownBy_putObj' _ D (.deferred none)) (fun r e => by cases e; exact ⟨_, hK, rfl⟩)
    refine ⟨.tuple #[.int .i64 x.2.2, .bool true], ?_, ⟨_, _, rfl, Bg.some_ (by have := hs.length; omega) e1 e2 e3, hB1.trans (belowK_b (w := w) (Nat.le_refl _) W D _ _ (by omega) hK rfl rfl)⟩⟩
    simp [results, Tryd.results33, go_sem, hca, hci]
end Go.Proofs.YtiiellclnmakpaaDoor
