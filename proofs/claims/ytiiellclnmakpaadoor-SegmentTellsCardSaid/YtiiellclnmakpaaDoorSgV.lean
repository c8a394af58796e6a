/- The program's Find. -/
import Derived.Test.YtiiellclnmakpaaDoorSgU
namespace Go.Proofs.YtiiellclnmakpaaDoor
open Go.RowKit Go.Shelf
open Crc Frm
attribute [local go_sem] Oper.semAt_some

theorem told_in (F : Fence) (n : Nat) (hF : F.fn 32) (hro : F.round = none) (a : Option Addr) (len cap : Nat) (k : Int) (w : World) :
    CallsIn F n Tryd.prog 32 #[.slice a len cap, .int .i64 k] w fun e w' => e = .returned (.func (.func 49) #[] #[.pointer (some ⟨w.heap.size + 1, 0, none⟩), .pointer (some ⟨w.heap.size, 0, none⟩)]) ∧
      w' = (w.alloc (.cells #[.slice a len cap] 22)).alloc (.cells #[.int .i64 k] 3) := by
  refine callsIn_of_wp Tryd.func32 rfl hF ?_ hro
  simp only [Tryd.ntmps32, List.size_toArray, List.length_cons, List.length_nil, Nat.reduceAdd, Nat.reduceSub, Array.replicate_succ, Array.replicate_zero, List.push_toArray, List.append_toArray, List.nil_append, List.cons_append]
  gi_wp2
  go_ret
  exact ⟨rfl, rfl⟩

/-- The iterator, as a loop wants it. -/
theorem told_tells (F : Fence) (hF : F = Fence.wide) (n : Nat) (hn : 1 ≤ n) (Bf Bs n₀ : Nat) (a : Option Addr) (len cap : Nat) (bs : List Nat) (from_ : Nat) (hfr : from_ ≤ len) (w : World)
    (hBf : Boxed w Bf 3 (.int .i64 (from_ : Int))) (hBs : Boxed w Bs 22 (.slice a len cap)) (hn₀ : n₀ ≤ w.heap.size) (hs : Sl w n₀ a len cap bs) :
    Tells F n Tryd.prog 49 #[.pointer (some ⟨Bf, 0, none⟩), .pointer (some ⟨Bs, 0, none⟩)] TF.enc (fun x X => x.Lies X) (Kpt n₀ Bs 22) (fun xs => xs.map TF.pure = tolds bs from_) (fun pre => ∃ post, pre.map TF.pure ++ post = tolds bs from_) (tolds bs from_).length w :=
  fun l J Jx W hW hJ _ hY h0 => told1_in F hF n hn l Bf Bs n₀ a len cap bs from_ hfr J Jx W hJ (fun pre x X => hY pre x X) (Boxed.cell (show Boxed W Bf 3 (.int .i64 (from_ : Int)) from (hW.block Bf hBf.lt).trans hBf)) ((hW.block Bs hBs.lt).trans hBs) (Nat.le_trans hn₀ hW.size) (hs.below (hW.mono hn₀) (Nat.le_refl _)) h0

theorem cells_of_cell {X : World} {b o : Nat} {v : Value} (h : X.cell? ⟨b, o, none⟩ = some v) : ∃ (cs : Array Value) (t : TypeId) (fr : Nat × Nat), X.heap[b]? = some (.cells cs t fr) := by
  unfold World.cell? at h
  simp only at h
  split at h
  · rename_i cs t fr hh
    exact ⟨_, _, _, hh⟩
  · cases h
theorem Sl.own {X Y : World} {row : Option Nat} {a : Option Addr} {len cap : Nat} {bs : List Nat} (h : Sl X X.heap.size a len cap bs) (hg : X.grownBy Y row) (hr : ∀ r, row = some r → ∃ o : Obj, X.heap[r]? = some o ∧ o.isCells = false) : Sl Y Y.heap.size a len cap bs :=
  (h.kept hg (fun hp b o e hrow => by
    obtain ⟨b', o', e', _, hc⟩ := h.at_ hp
    rw [e] at e'
    injection e' with e'
    injection e' with e1 e2
    subst e1
    obtain ⟨cs, t, fr, hh⟩ := cells_of_cell (hc 0 hp)
    obtain ⟨ob, ho, hcc⟩ := hr b hrow.symm
    rw [hh] at ho
    injection ho with ho
    subst ho
    cases hcc)).more hg.size

/-- What is found among what is told. -/
def fnd : List (Nat × Fr) → Int → Option Fr
  | [], _ => none
  | x :: r, seq => if x.2.seq = seq then some x.2 else if seq < x.2.seq then none else fnd r seq
theorem fnd_skip : ∀ (p r : List (Nat × Fr)) (seq : Int), (∀ x ∈ p, x.2.seq < seq) → fnd (p ++ r) seq = fnd r seq := by
  intro p
  induction p with
  | nil => intro r seq _; rfl
  | cons x p ih =>
    intro r seq h
    have hx := h x (by simp)
    simp only [List.cons_append, fnd]
    rw [if_neg (by omega), if_neg (by omega)]
    exact ih r seq (fun y hy => h y (by simp [hy]))

def frCells (f : Fr) (a : Option Addr) (c : Nat) : Obj := .cells #[.int .i64 f.ty, .int .i64 f.seq, .slice a f.body.length c] 36 (0, 0)
def FndI (seq : Int) (w : World) (pre : List TF) (W : World) : Prop :=
  ((((∀ x ∈ pre, x.f.seq < seq) ∧ Boxed W w.heap.size 2 (.int .i64 seq)) ∧ W.heap[w.heap.size + 1]? = some (frCells Fr.zero none 0)) ∧ Boxed W (w.heap.size + 1 + 1) 4 (.bool false)) ∧ Below w.heap.size w W
def FndX (seq : Int) (w : World) (c : Code) (pre : List TF) (W : World) : Prop :=
  ((c = .ret ∧ ∃ p x, pre = p ++ [x] ∧ (∀ y ∈ p, y.f.seq < seq) ∧ x.f.seq = seq ∧ W.heap[w.heap.size + 1]? = some (frCells x.f x.ba x.bc) ∧ Boxed W (w.heap.size + 1 + 1) 4 (.bool true) ∧ x.Lies W) ∨
   (c = .exit 0 ∧ (∃ p x, pre = p ++ [x] ∧ (∀ y ∈ p, y.f.seq < seq) ∧ seq < x.f.seq ∧ W.heap[w.heap.size + 1]? = some (frCells Fr.zero none 0) ∧ Boxed W (w.heap.size + 1 + 1) 4 (.bool false)))) ∧ Below w.heap.size w W
def FndPost (l : List (Nat × Fr)) (seq : Int) (w : World) (e : Ending) (w' : World) : Prop :=
  ∃ ba bc, e = .returned (.tuple #[.agg #[.int .i64 ((fnd l seq).getD Fr.zero).ty, .int .i64 ((fnd l seq).getD Fr.zero).seq, .slice ba ((fnd l seq).getD Fr.zero).body.length bc], .bool (fnd l seq).isSome]) ∧ Sl w' w'.heap.size ba ((fnd l seq).getD Fr.zero).body.length bc ((fnd l seq).getD Fr.zero).body ∧ Below w.heap.size w w'
theorem cell_own {β : Type} (B : Nat) (o : β → Obj) (hc : ∀ s, (o s).isCells = true) : Own (fun (s : β) W => W.heap[B]? = some (o s)) := fun s X Y row h hg hr => by
  have h' : X.heap[B]? = some (o s) := h
  have hcs := hc s
  refine (hg.block B (Array.getElem?_eq_some_iff.1 h').1 (fun e => ?_)).trans h'
  obtain ⟨ob, ho, hcc⟩ := hr B e.symm
  rw [h'] at ho
  injection ho with ho
  subst ho
  rw [hcs] at hcc
  cases hcc
theorem fndI_own (seq : Int) (w : World) (B : Nat) (hB : w.heap.size ≤ B) : OwnFrom B (FndI seq w) :=
  OwnFrom.and (OwnFrom.and (OwnFrom.and (OwnFrom.and (ownFrom_pure _ _) (Own.from (boxed_own _ _ _) _)) (Own.from (cell_own _ (fun _ => frCells Fr.zero none 0) (fun _ => rfl)) _)) (Own.from (boxed_own _ _ _) _)) (ownFrom_below (Nat.le_refl _) hB)
theorem fndX_own (seq : Int) (w : World) (B : Nat) (hB : w.heap.size ≤ B) (c : Code) : OwnFrom B (FndX seq w c) :=
  OwnFrom.and (fun s X Y row h hg hr => by
      have hr' := fun r e => (hr r e).2
      rcases h with ⟨e0, p, x, e1, e2, e3, e4, e5, e6⟩ | ⟨e0, p, x, e1, e2, e3, e4, e5⟩
      · exact .inl ⟨e0, p, x, e1, e2, e3, cell_own _ (fun (_ : Unit) => frCells x.f x.ba x.bc) (fun _ => rfl) () X Y row e4 hg hr', boxed_own _ _ (fun (_ : Unit) => Value.bool true) () X Y row e5 hg hr', Sl.own e6 hg hr'⟩
      · exact .inr ⟨e0, p, x, e1, e2, e3, cell_own _ (fun (_ : Unit) => frCells Fr.zero none 0) (fun _ => rfl) () X Y row e4 hg hr', boxed_own _ _ (fun (_ : Unit) => Value.bool false) () X Y row e5 hg hr'⟩) (ownFrom_below (Nat.le_refl _) hB)
theorem fndI_step {seq : Int} {pre : List TF} {x : TF} (hp : ∀ y ∈ pre, y.f.seq < seq) (hx : x.f.seq < seq) : ∀ y ∈ pre ++ [x], y.f.seq < seq := by
  intro y hy
  rcases List.mem_append.1 hy with h | h
  · exact hp y h
  · simp at h
    subst h
    exact hx
theorem fnd_at {l : List (Nat × Fr)} {seq : Int} {p : List TF} {x : TF} {post : List (Nat × Fr)} (e : (p ++ [x]).map TF.pure ++ post = l) (hp : ∀ y ∈ p, y.f.seq < seq) : fnd l seq = if x.f.seq = seq then some x.f else if seq < x.f.seq then none else fnd post seq := by
  subst e
  rw [List.map_append, List.append_assoc, fnd_skip _ _ _ (by intro y hy; obtain ⟨z, hz, rfl⟩ := List.mem_map.1 hy; exact hp z hz)]
  rfl
theorem fnd_end {l : List (Nat × Fr)} {seq : Int} {p : List TF} (e : p.map TF.pure = l) (hp : ∀ y ∈ p, y.f.seq < seq) : fnd l seq = none := by
  subst e
  have := fnd_skip (p.map TF.pure) [] seq (by intro y hy; obtain ⟨z, hz, rfl⟩ := List.mem_map.1 hy; exact hp z hz)
  rw [List.append_nil] at this
  rw [this]
  rfl
theorem begin_inW (F : Fence) (hF : F = Fence.wide) (n : Nat) (hn : 6 ≤ n) (a : Option Addr) (len cap : Nat) (xs : List (Int × Int)) (hl : len ≤ 100000) (seq : Int) (w : World) (hs : Spts w w.heap.size a len cap xs) :
    CallsIn F n Tryd.prog 33 #[.slice a len cap, .int .i64 seq] w fun e w' => ∃ at_ is, e = .returned (.tuple #[.int .i64 at_, .bool is]) ∧ Bg xs seq at_ is ∧ Below w.heap.size w w' := by
  subst hF
  exact begin_in Fence.wide n trivial trivial trivial rfl hn a len cap xs hl seq w hs

theorem frame_set {W : World} {B : Nat} {g : Fr} {ga : Option Addr} {gc : Nat} (h : W.heap[B]? = some (frCells g ga gc)) (f : Fr) (a : Option Addr) (c : Nat) :
    (((W.setCell ⟨B, 0, none⟩ (.int .i64 f.ty)).setCell ⟨B, 1, none⟩ (.int .i64 f.seq)).setCell ⟨B, 2, none⟩ (.slice a f.body.length c)).heap[B]? = some (frCells f a c) :=
  heap_setCells_whole (cs := [Value.int .i64 g.ty, .int .i64 g.seq, .slice ga g.body.length gc]) [Value.int .i64 f.ty, .int .i64 f.seq, .slice a f.body.length c] rfl h
theorem boxed_far3 {W : World} {B B' : Nat} {t : TypeId} {v v0 v1 v2 : Value} (h : Boxed W B' t v) (hne : B' ≠ B) : Boxed (((W.setCell ⟨B, 0, none⟩ v0).setCell ⟨B, 1, none⟩ v1).setCell ⟨B, 2, none⟩ v2) B' t v :=
  (Below.heap_setCell _ ⟨B, 2, none⟩ v2 B' hne).trans ((Below.heap_setCell _ ⟨B, 1, none⟩ v1 B' hne).trans ((Below.heap_setCell _ ⟨B, 0, none⟩ v0 B' hne).trans h))
theorem below_set4 {w W : World} {v0 v1 v2 v3 : Value} (h : Below w.heap.size w W) : Below w.heap.size w ((((W.setCell ⟨w.heap.size + 1, 0, none⟩ v0).setCell ⟨w.heap.size + 1, 1, none⟩ v1).setCell ⟨w.heap.size + 1, 2, none⟩ v2).setCell ⟨w.heap.size + 1 + 1, 0, none⟩ v3) :=
  (((h.setCell (p := ⟨w.heap.size + 1, 0, none⟩) (by simp) _).setCell (p := ⟨w.heap.size + 1, 1, none⟩) (by simp) _).setCell (p := ⟨w.heap.size + 1, 2, none⟩) (by simp) _).setCell (p := ⟨w.heap.size + 1 + 1, 0, none⟩) (by simp; omega) _
theorem keeps_set4 {W : World} {B : Nat} {v0 v1 v2 v3 : Value} : KeepsOthers W ((((W.setCell ⟨B, 0, none⟩ v0).setCell ⟨B, 1, none⟩ v1).setCell ⟨B, 2, none⟩ v2).setCell ⟨B + 1, 0, none⟩ v3) :=
  (((KeepsOthers.setCell _ _ _).trans (KeepsOthers.setCell _ _ _)).trans (KeepsOthers.setCell _ _ _)).trans (KeepsOthers.setCell _ _ _)
theorem find_results {tmps : Array Value} {W : World} {B : Nat} {f : Fr} {a : Option Addr} {c : Nat} {is : Bool} (h1 : tmps.getD 6 undef = .pointer (some ⟨B, 0, none⟩)) (h2 : tmps.getD 7 undef = .pointer (some ⟨B + 1, 0, none⟩)) (hF : W.heap[B]? = some (frCells f a c)) (hI : Boxed W (B + 1) 4 (.bool is)) :
    (results Tryd.f16 tmps).run Tryd.prog W = .ok (.tuple #[.agg #[.int .i64 f.ty, .int .i64 f.seq, .slice a f.body.length c], .bool is]) W := by
  have c0 := (cell_of_row W B 0 _ _ _ hF).trans rfl
  have c1 := (cell_of_row W B 1 _ _ _ hF).trans rfl
  have c2 := (cell_of_row W B 2 _ _ _ hF).trans rfl
  have hc := hI.cell
  have h1' : tmps[6]?.getD undef = .pointer (some ⟨B, 0, none⟩) := by simpa using h1
  have h2' : tmps[7]?.getD undef = .pointer (some ⟨B + 1, 0, none⟩) := by simpa using h2
  simp [results, Tryd.results16, go_sem, h1', h2', asAddr, c0, c1, c2, hc]
theorem FndPost.none_ {l : List (Nat × Fr)} {seq : Int} {w w' : World} (h : fnd l seq = none) (hb : Below w.heap.size w w') : FndPost l seq w (.returned (.tuple #[.agg #[.int .i64 Fr.zero.ty, .int .i64 Fr.zero.seq, .slice none Fr.zero.body.length 0], .bool false])) w' := by
  unfold FndPost
  rw [h]
  exact ⟨none, 0, rfl, Sl.nil_, hb⟩
theorem FndPost.some_ {l : List (Nat × Fr)} {seq : Int} {w w' : World} {f : Fr} {a : Option Addr} {c : Nat} (h : fnd l seq = some f) (hs : Sl w' w'.heap.size a f.body.length c f.body) (hb : Below w.heap.size w w') : FndPost l seq w (.returned (.tuple #[.agg #[.int .i64 f.ty, .int .i64 f.seq, .slice a f.body.length c], .bool true])) w' := by
  unfold FndPost
  rw [h]
  exact ⟨a, c, rfl, hs, hb⟩

/-- Bytes don't lie in a block that holds none. -/
theorem Sl.apart {W : World} {B : Nat} {a : Option Addr} {len cap : Nat} {bs : List Nat} (h : Sl W B a len cap bs) {g : Nat} {cs : Array Value} {t : TypeId} {fr : Nat × Nat} (hg : W.heap[g]? = some (.cells cs t fr)) (hno : ∀ v ∈ cs.toList, ∀ n, v ≠ .int .u8 n) : 0 < len → ∀ b o, a = some ⟨b, o, none⟩ → b ≠ g := by
  intro hp b o e hbg
  subst hbg
  obtain ⟨b', o', e', _, hc⟩ := h.at_ hp
  rw [e] at e'
  injection e' with e'
  injection e' with e1 e2
  subst e1 e2
  have h0 := hc 0 hp
  rw [Nat.add_zero, cell_of_row W b o cs t fr hg] at h0
  exact hno _ (by have := Array.mem_of_getElem? h0; simpa using this) _ rfl
theorem lies_set4 {W : World} {x : TF} {B : Nat} (h : x.Lies W) (h1 : W.heap[B]? = some (frCells Fr.zero none 0)) (h2 : Boxed W (B + 1) 4 (.bool false)) (v0 v1 v2 v3 : Value) :
    x.Lies ((((W.setCell ⟨B, 0, none⟩ v0).setCell ⟨B, 1, none⟩ v1).setCell ⟨B, 2, none⟩ v2).setCell ⟨B + 1, 0, none⟩ v3) := by
  have n1 := Sl.apart h h1 (by simp [Fr.zero])
  have n2 := Sl.apart h h2 (by simp)
  exact ((((h.far ⟨B, 0, none⟩ v0 n1).far ⟨B, 1, none⟩ v1 n1).far ⟨B, 2, none⟩ v2 n1).far ⟨B + 1, 0, none⟩ v3 n2).more (by simp)

def FindPost (bs : List Nat) (xs : List (Int × Int)) (seq : Int) (w : World) (e : Ending) (w' : World) : Prop :=
  ∃ at_ is, Bg xs seq at_ is ∧ FndPost (if is = true ∧ 0 ≤ at_ ∧ at_ ≤ (bs.length : Int) then tolds bs at_.toNat else []) seq w e w'

set_option maxRecDepth 100000 in
set_option maxHeartbeats 4000000 in
theorem find_in (F : Fence) (hF : F = Fence.wide) (n : Nat) (hn : 12 ≤ n) (a : Option Addr) (len cap : Nat) (bs : List Nat) (la : Option Addr) (ll lc : Nat) (xs : List (Int × Int)) (hl : ll ≤ 100000) (seq : Int) (w : World) (hs : Sl w w.heap.size a len cap bs) (hx : Spts w w.heap.size la ll lc xs) :
    CallsIn F n Tryd.prog 16 #[.slice a len cap, .slice la ll lc, .int .i64 seq] w fun e w' => FindPost bs xs seq w e w' := by
  have hf1 : F.fn 16 := by subst hF; trivial
  have hf2 : F.fn 33 := by subst hF; trivial
  have hf3 : F.fn 32 := by subst hF; trivial
  have hf4 : F.fn 49 := by subst hF; trivial
  have hro : F.round = none := by subst hF; rfl
  have HF := Lib.hid hF
  clear hF
  have h1 : 1 ≤ n := by omega
  have hbl := hs.length
  have hle := hs.le
  have hmx := hs.max
  unfold maxLen at hmx
  refine callsIn_of_wp_marks Tryd.func16 rfl hf1 ?_ hro
  simp only [Tryd.ntmps16, List.size_toArray, List.length_cons, List.length_nil, Nat.reduceAdd, Nat.reduceSub, Array.replicate_succ, Array.replicate_zero, List.push_toArray, List.append_toArray, List.nil_append, List.cons_append]
  have bS := ((Boxed.new w 2 (.int .i64 seq)).alloc (.cells #[.int .i64 0, .int .i64 0, .slice none 0 0] 36)).alloc (.cells #[.bool false] 4)
  have bF : ((((w.alloc (.cells #[.int .i64 seq] 2)).alloc (.cells #[.int .i64 0, .int .i64 0, .slice none 0 0] 36)).alloc (.cells #[.bool false] 4))).heap[w.heap.size + 1]? = some (frCells Fr.zero none 0) := by
    refine (heap_alloc_old _ _ (by simp)).trans ?_
    have := heap_alloc_new (w.alloc (.cells #[.int .i64 seq] 2)) (.cells #[.int .i64 0, .int .i64 0, .slice none 0 0] 36)
    rw [World.size_alloc] at this
    exact this
  have bI := Boxed.new ((w.alloc (.cells #[.int .i64 seq] 2)).alloc (.cells #[.int .i64 0, .int .i64 0, .slice none 0 0] 36)) 4 (.bool false)
  simp only [World.size_alloc] at bI
  have hB0 : Below w.heap.size w (((w.alloc (.cells #[.int .i64 seq] 2)).alloc (.cells #[.int .i64 0, .int .i64 0, .slice none 0 0] 36)).alloc (.cells #[.bool false] 4)) :=
    (((Below.refl _ w).alloc (Nat.le_refl _) _).alloc (by simp) _).alloc (by simp; omega) _
  obtain ⟨W0, hW0⟩ : ∃ W0, W0 = ((w.alloc (.cells #[.int .i64 seq] 2)).alloc (.cells #[.int .i64 0, .int .i64 0, .slice none 0 0] 36)).alloc (.cells #[.bool false] 4) := ⟨_, rfl⟩
  rw [← hW0] at bS bF bI hB0
  have cS := bS.cell
  have HB := Lib.hid (And.intro bS (And.intro bF (And.intro bI hB0)))
  have BG := Lib.hid (begin_inW F HF.out (n - 1) (by omega) la ll lc xs hl seq W0 (hx.below hB0 (Nat.le_refl _) |>.more hB0.size))
  clear bS bF bI hB0
  have HW0 := Lib.hid hW0
  clear hW0
  gi_wp2_with fail
  try rw [← HW0.out]
  refine BG.out.mono ?_
  rintro e w1 ⟨at_, is, rfl, hbg, hb1⟩
  have bS := (hb1.block _ HB.out.1.lt).trans HB.out.1
  have bF := (hb1.block _ (lt_of_heap HB.out.2.1)).trans HB.out.2.1
  have bI := (hb1.block _ HB.out.2.2.1.lt).trans HB.out.2.2.1
  have hB1 := HB.out.2.2.2.trans (hb1.mono HB.out.2.2.2.size)
  have Hbg := Lib.hid hbg
  clear hbg hb1 BG HB HW0 cS
  by_cases hok : is = true ∧ 0 ≤ at_ ∧ at_ ≤ (bs.length : Int)
  · obtain ⟨rfl, ha0, hal⟩ := hok
    obtain ⟨k, rfl⟩ := Int.eq_ofNat_of_zero_le ha0
    have hkl : k ≤ len := by omega
    have hd0 : decide ((k : Int) < 0) = false := by simp
    have hd1 : decide ((len : Int) < (k : Int)) = false := by simp; omega
    have HB1 := Lib.hid (And.intro bS (And.intro bF (And.intro bI hB1)))
    clear ha0 hal bS bF bI hB1
    gi_wp2_with (gi_at_call 32; refine (told_in F (n - 1) hf3 hro _ _ _ _ _).mono ?_; rintro e w2 ⟨rfl, rfl⟩)
    have bB := (Boxed.new w1 22 (.slice a len cap)).alloc (.cells #[.int .i64 (k : Int)] 3)
    have bK := Boxed.new (w1.alloc (.cells #[.slice a len cap] 22)) 3 (.int .i64 (k : Int))
    simp only [World.size_alloc] at bK
    have hb2 : Below w1.heap.size w1 ((w1.alloc (.cells #[.slice a len cap] 22)).alloc (.cells #[.int .i64 (k : Int)] 3)) := ((Below.refl _ _).alloc (Nat.le_refl _) _).alloc (by simp) _
    have hsz : ((w1.alloc (.cells #[.slice a len cap] 22)).alloc (.cells #[.int .i64 (k : Int)] 3)).heap.size = w1.heap.size + 2 := by simp
    obtain ⟨W0, hW0⟩ : ∃ W0, (w1.alloc (.cells #[.slice a len cap] 22)).alloc (.cells #[.int .i64 (k : Int)] 3) = W0 := ⟨_, rfl⟩
    rw [hW0] at bB bK hb2 hsz ⊢
    clear hW0
    have bS := (hb2.block _ (lt_of_heap HB1.out.1)).trans HB1.out.1
    have bF := (hb2.block _ (lt_of_heap HB1.out.2.1)).trans HB1.out.2.1
    have bI := (hb2.block _ (lt_of_heap HB1.out.2.2.1)).trans HB1.out.2.2.1
    have hB0 := HB1.out.2.2.2.trans (hb2.mono HB1.out.2.2.2.size)
    have hlt1 := lt_of_heap (HB1.out.2.2.1)
    have hw0 : w.heap.size ≤ W0.heap.size := hB0.size
    have hsW := hs.below hB0 (Nat.le_refl _)
    have hcond : (if true = true ∧ 0 ≤ (k : Int) ∧ (k : Int) ≤ (bs.length : Int) then tolds bs (k : Int).toNat else []) = tolds bs k := by
      rw [if_pos ⟨rfl, by omega, by omega⟩, Int.toNat_natCast]
    have Hfin : ∀ e w', FndPost (tolds bs k) seq w e w' → FindPost bs xs seq w e w' := fun e w' h => ⟨(k : Int), true, Hbg.out, by rw [hcond]; exact h⟩
    have Hf := Lib.hid Hfin
    clear Hfin hcond
    refine range_tells hro h1 (gf := 49) (lb := #[.pointer (some ⟨w1.heap.size + 1, 0, none⟩), .pointer (some ⟨w1.heap.size, 0, none⟩)]) rfl hf4 (enters_of Tryd.func49 (by kernel_rfl) rfl)
      (told_tells F HF.out (n - 1) (by omega) (w1.heap.size + 1) w1.heap.size w.heap.size a len cap bs k hkl W0 bK bB hw0 hsW) Kpt.trans (Kpt.book hw0) (fun _ => rfl)
      (FndI seq w) (FndX seq w) (fndI_own seq w _ hw0) (fndX_own seq w _ hw0) ⟨⟨⟨⟨by simp, bS⟩, bF⟩, bI⟩, hB0⟩
      (fun x a' W => ∃ Bx, w.heap.size + 1 + 1 < Bx ∧ W.heap[Bx]? = some (frCells x.f x.ba x.bc) ∧ x.Lies W ∧ a' = { tmps := #[.slice a len cap, .slice la ll lc, .int .i64 seq, undef, undef, .pointer (some ⟨w.heap.size, 0, none⟩), .pointer (some ⟨w.heap.size + 1, 0, none⟩), .pointer (some ⟨w.heap.size + 1 + 1, 0, none⟩), .int .i64 (k : Int), .bool true, undef, .pointer (some ⟨Bx, 0, none⟩), .tuple #[.int .i64 (k : Int), .bool true], .slice la ll lc, .int .i64 seq, .tuple #[.int .i64 (k : Int), .bool true], .int .i64 (k : Int), .bool true, .bool true, .bool false, .bool false, .int .i64 (k : Int), .bool false, .bool false, .bool false, .int .i64 (k : Int), .slice a len cap, .int .i64 (len : Int), .bool false, .bool false, undef, .slice a len cap, .int .i64 (k : Int), .func (.func 49) #[] #[.pointer (some ⟨w1.heap.size + 1, 0, none⟩), .pointer (some ⟨w1.heap.size, 0, none⟩)], .int .i64 (x.at_ : Int), .agg #[.int .i64 x.f.ty, .int .i64 x.f.seq, .slice x.ba x.f.body.length x.bc], undef, undef, undef, undef, undef, undef, undef, undef, undef, undef], defers := [] })
      (fun x a' _ X Y row h hg hr => by
        obtain ⟨Bx, e1, e2, e3, e4⟩ := h
        exact ⟨Bx, e1, cell_own _ (fun (_ : Unit) => frCells x.f x.ba x.bc) (fun _ => rfl) () X Y row e2 hg (fun r e => (hr r e).2), Sl.own e3 hg (fun r e => (hr r e).2), e4⟩)
      ?assign ?body ?done ?stop
    case assign =>
      rintro l pre x W K ⟨⟨⟨⟨hp, b1⟩, b2⟩, b3⟩, hB1⟩ hM hK
      simp only [TF.enc]
      gi_wp2
      refine hK _ _ ((KeepsOthers.alloc _ _).from _) (Kpt.of_below ((Below.refl _ W).alloc (Nat.le_refl _) _) hB1.size) ⟨⟨⟨⟨hp, b1.alloc _⟩, (heap_alloc_old _ _ (lt_of_heap b2)).trans b2⟩, b3.alloc _⟩, hB1.alloc hB1.size _⟩ ⟨W.heap.size, b3.lt, heap_alloc_new W _, (hM.below ((Below.refl _ W).alloc (Nat.le_refl _) _) (Nat.le_refl _)).more (by simp), rfl⟩
    case body =>
      rintro l pre x a' W ⟨⟨⟨⟨hp, b1⟩, b2⟩, b3⟩, hB1⟩ ⟨Bx, hBx, hX, hM, rfl⟩ _
      have cs := Boxed.cell b1
      have u0 := (cell_of_row W Bx 0 _ _ _ hX).trans rfl
      have u1 := (cell_of_row W Bx 1 _ _ _ hX).trans rfl
      have u2 := (cell_of_row W Bx 2 _ _ _ hX).trans rfl
      have x0 := (cell_of_row W _ 0 _ _ _ b2).trans rfl
      have x1 := (cell_of_row W _ 1 _ _ _ b2).trans rfl
      have x2 := (cell_of_row W _ 2 _ _ _ b2).trans rfl
      have y0 := frozen_of_row W _ 0 _ _ b2
      have y1 := frozen_of_row W _ 1 _ _ b2
      have y2 := frozen_of_row W _ 2 _ _ b2
      have z0 := Boxed.cell b3
      have z1 := Boxed.frozen b3
      have HK := Lib.hid (And.intro hp (And.intro b1 (And.intro b2 (And.intro b3 (And.intro hB1 hM)))))
      clear hp b1 b2 b3 hB1 hM hX
      rcases Int.lt_trichotomy x.f.seq seq with hlt | heq | hgt
      · have hd0 : (x.f.seq == seq) = false := by simp; omega
        have hd1 : decide (seq < x.f.seq) = false := by simp; omega
        have Hl := Lib.hid hlt
        clear hlt
        gi_wp2
        exact ⟨KeepsFrom.refl _ _, Kpt.refl _ _ _ _, ⟨⟨⟨fndI_step HK.out.1 Hl.out, HK.out.2.1⟩, HK.out.2.2.1⟩, HK.out.2.2.2.1⟩, HK.out.2.2.2.2.1⟩
      · have hd0 : (x.f.seq == seq) = true := by simpa using heq
        have Hl := Lib.hid heq
        clear heq
        gi_wp2
        exact ⟨keeps_set4.from _, .inl ⟨rfl, pre, x, rfl, HK.out.1, Hl.out, block_set (frame_set HK.out.2.2.1 x.f x.ba x.bc) (by omega) _, (boxed_far3 HK.out.2.2.2.1 (by omega)).set _, lies_set4 HK.out.2.2.2.2.2 HK.out.2.2.1 HK.out.2.2.2.1 _ _ _ _⟩, below_set4 HK.out.2.2.2.2.1⟩
      · have hd0 : (x.f.seq == seq) = false := by simp; omega
        have hd1 : decide (seq < x.f.seq) = true := by simpa using hgt
        have Hl := Lib.hid hgt
        clear hgt
        gi_wp2
        exact ⟨KeepsFrom.refl _ _, .inr ⟨rfl, pre, x, rfl, HK.out.1, Hl.out, HK.out.2.2.1, HK.out.2.2.2.1⟩, HK.out.2.2.2.2.1⟩
    case done =>
      rintro D ys W hD hS ⟨⟨⟨⟨hp, b1⟩, b2⟩, b3⟩, hB1⟩ hK
      have x0 := (cell_of_row W _ 0 _ _ _ b2).trans rfl
      have x1 := (cell_of_row W _ 1 _ _ _ b2).trans rfl
      have x2 := (cell_of_row W _ 2 _ _ _ b2).trans rfl
      have y0 := frozen_of_row W _ 0 _ _ b2
      have y1 := frozen_of_row W _ 1 _ _ b2
      have y2 := frozen_of_row W _ 2 _ _ b2
      have z0 := Boxed.cell b3
      have z1 := Boxed.frozen b3
      have HK := Lib.hid (And.intro hK (And.intro b2 (And.intro b3 (And.intro (fnd_end hS hp) hB1))))
      clear hK b1 b2 b3 hp hB1 hS
      gi_wp2
      have hK' := (keeps_set4 (W := W) (B := w.heap.size + 1) (v0 := .int .i64 0) (v1 := .int .i64 0) (v2 := .slice none 0 0) (v3 := .bool false)).same D _ HK.out.1 rfl
      refine ⟨by simp, .inl ⟨_, _, rfl, run_takeDeferred hK', ?_⟩⟩
      have hpt := grownBy_putObj' ((((W.setCell ⟨w.heap.size + 1, 0, none⟩ (.int .i64 0)).setCell ⟨w.heap.size + 1, 1, none⟩ (.int .i64 0)).setCell ⟨w.heap.size + 1, 2, none⟩ (.slice none 0 0)).setCell ⟨w.heap.size + 1 + 1, 0, none⟩ (.bool false)) D (.deferred none)
      have hro' : ∀ r, (some D) = some r → ∃ o : Obj, ((((W.setCell ⟨w.heap.size + 1, 0, none⟩ (.int .i64 0)).setCell ⟨w.heap.size + 1, 1, none⟩ (.int .i64 0)).setCell ⟨w.heap.size + 1, 2, none⟩ (.slice none 0 0)).setCell ⟨w.heap.size + 1 + 1, 0, none⟩ (.bool false)).heap[r]? = some o ∧ o.isCells = false := fun r e => by cases e; exact ⟨_, hK', rfl⟩
      exact ⟨_, find_results rfl rfl (cells_kept (block_set (frame_set HK.out.2.1 Fr.zero none 0) (by omega) _) hpt hro') (cells_kept ((boxed_far3 HK.out.2.2.1 (by omega)).set (.bool false)) hpt hro'), Hf.out _ _ (FndPost.none_ HK.out.2.2.2.1 ((below_set4 HK.out.2.2.2.2).trans (belowK_b (w := w) (Nat.le_refl _) _ D _ _ (by omega) hK' rfl rfl)))⟩
    case stop =>
      rintro D c pre W hD ⟨post, hpost⟩ ⟨hX, hB1⟩ hK
      rcases hX with ⟨rfl, p, x, rfl, e2, e3, e4, e5, e6⟩ | ⟨rfl, p, x, rfl, e2, e3, b2, b3⟩
      · have HK := Lib.hid (And.intro hK (And.intro e4 (And.intro e5 (And.intro ((fnd_at hpost e2).trans (if_pos e3)) (And.intro e6 hB1)))))
        clear hK e4 e5 e2 e3 e6 hB1 hpost
        gi_wp2
        refine ⟨by simp, .inl ⟨_, _, rfl, run_takeDeferred HK.out.1, ?_⟩⟩
        have hpt := grownBy_putObj' W D (.deferred none)
        have hro' : ∀ r, (some D) = some r → ∃ o : Obj, W.heap[r]? = some o ∧ o.isCells = false := fun r e => by cases e; exact ⟨_, HK.out.1, rfl⟩
        exact ⟨_, find_results rfl rfl (cells_kept HK.out.2.1 hpt hro') (cells_kept HK.out.2.2.1 hpt hro'), Hf.out _ _ (FndPost.some_ HK.out.2.2.2.1 (Sl.own HK.out.2.2.2.2.1 hpt hro') (HK.out.2.2.2.2.2.trans (belowK_b (w := w) (Nat.le_refl _) _ D _ _ (by omega) HK.out.1 rfl rfl)))⟩
      · have x0 := (cell_of_row W _ 0 _ _ _ b2).trans rfl
        have x1 := (cell_of_row W _ 1 _ _ _ b2).trans rfl
        have x2 := (cell_of_row W _ 2 _ _ _ b2).trans rfl
        have y0 := frozen_of_row W _ 0 _ _ b2
        have y1 := frozen_of_row W _ 1 _ _ b2
        have y2 := frozen_of_row W _ 2 _ _ b2
        have z0 := Boxed.cell b3
        have z1 := Boxed.frozen b3
        have HK := Lib.hid (And.intro hK (And.intro b2 (And.intro b3 (And.intro ((fnd_at hpost e2).trans ((if_neg (by omega)).trans (if_pos e3))) hB1))))
        clear hK b2 b3 e2 e3 hB1 hpost
        gi_wp2
        have hK' := (keeps_set4 (W := W) (B := w.heap.size + 1) (v0 := .int .i64 0) (v1 := .int .i64 0) (v2 := .slice none 0 0) (v3 := .bool false)).same D _ HK.out.1 rfl
        refine ⟨by simp, .inl ⟨_, _, rfl, run_takeDeferred hK', ?_⟩⟩
        have hpt := grownBy_putObj' ((((W.setCell ⟨w.heap.size + 1, 0, none⟩ (.int .i64 0)).setCell ⟨w.heap.size + 1, 1, none⟩ (.int .i64 0)).setCell ⟨w.heap.size + 1, 2, none⟩ (.slice none 0 0)).setCell ⟨w.heap.size + 1 + 1, 0, none⟩ (.bool false)) D (.deferred none)
        have hro' : ∀ r, (some D) = some r → ∃ o : Obj, ((((W.setCell ⟨w.heap.size + 1, 0, none⟩ (.int .i64 0)).setCell ⟨w.heap.size + 1, 1, none⟩ (.int .i64 0)).setCell ⟨w.heap.size + 1, 2, none⟩ (.slice none 0 0)).setCell ⟨w.heap.size + 1 + 1, 0, none⟩ (.bool false)).heap[r]? = some o ∧ o.isCells = false := fun r e => by cases e; exact ⟨_, hK', rfl⟩
        exact ⟨_, find_results rfl rfl (cells_kept (block_set (frame_set HK.out.2.1 Fr.zero none 0) (by omega) _) hpt hro') (cells_kept ((boxed_far3 HK.out.2.2.1 (by omega)).set (.bool false)) hpt hro'), Hf.out _ _ (FndPost.none_ HK.out.2.2.2.1 ((below_set4 HK.out.2.2.2.2).trans (belowK_b (w := w) (Nat.le_refl _) _ D _ _ (by omega) hK' rfl rfl)))⟩
  · have x0 := (cell_of_row w1 _ 0 _ _ _ bF).trans rfl
    have x1 := (cell_of_row w1 _ 1 _ _ _ bF).trans rfl
    have x2 := (cell_of_row w1 _ 2 _ _ _ bF).trans rfl
    have y0 := frozen_of_row w1 _ 0 _ _ bF
    have y1 := frozen_of_row w1 _ 1 _ _ bF
    have y2 := frozen_of_row w1 _ 2 _ _ bF
    have z0 := Boxed.cell bI
    have z1 := Boxed.frozen bI
    have HB1 := Lib.hid (And.intro bF (And.intro bI hB1))
    clear bS bF bI hB1
    cases is with
    | true =>
      by_cases h0 : at_ < 0
      · have hd0 : decide (at_ < 0) = true := by simpa using h0
        have Hn := Lib.hid h0
        clear hok h0
        gi_wp2
        exact ⟨_, find_results rfl rfl (block_set (frame_set HB1.out.1 Fr.zero none 0) (by omega) _) ((boxed_far3 HB1.out.2.1 (by omega)).set _), at_, _, Hbg.out, FndPost.none_ (by rw [if_neg (by intro h; have := Hn.out; omega)]; rfl) (below_set4 HB1.out.2.2)⟩
      · have h2 : (bs.length : Int) < at_ := by
          refine Int.not_le.1 fun h => hok ⟨rfl, by omega, h⟩
        have hd0 : decide (at_ < 0) = false := by simpa using h0
        have hd1 : decide ((len : Int) < at_) = true := by simp; omega
        have Hn := Lib.hid h2
        clear hok h0 h2
        gi_wp2
        exact ⟨_, find_results rfl rfl (block_set (frame_set HB1.out.1 Fr.zero none 0) (by omega) _) ((boxed_far3 HB1.out.2.1 (by omega)).set _), at_, _, Hbg.out, FndPost.none_ (by rw [if_neg (by intro h; have := Hn.out; omega)]; rfl) (below_set4 HB1.out.2.2)⟩
    | false =>
      clear hok
      gi_wp2
      exact ⟨_, find_results rfl rfl (block_set (frame_set HB1.out.1 Fr.zero none 0) (by omega) _) ((boxed_far3 HB1.out.2.1 (by omega)).set _), at_, _, Hbg.out, FndPost.none_ (by rw [if_neg (by simp)]; rfl) (below_set4 HB1.out.2.2)⟩
end Go.Proofs.YtiiellclnmakpaaDoor
