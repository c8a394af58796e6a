/- The program's Index. -/
import Derived.Test.YtiiellclnmakpaaDoorSgV
import Derived.RangeFuncBox
import Derived.Maps.OwnIn
import Derived.Deep.AppendLies
namespace Go.Proofs.YtiiellclnmakpaaDoor
open Go.RowKit Go.Shelf
open Crc Frm
attribute [local go_sem] Oper.semAt_some

def scells (l : List (Int × Int)) : List Value := l.flatMap fun x => [.int .i64 x.1, .int .i64 x.2]
theorem scells_snoc (l : List (Int × Int)) (x : Int × Int) : scells (l ++ [x]) = scells l ++ [.int .i64 x.1, .int .i64 x.2] := by simp [scells]
theorem scells_get : ∀ (l : List (Int × Int)) (k : Nat) (x : Int × Int), l[k]? = some x → (scells l)[k * 2]? = some (.int .i64 x.1) ∧ (scells l)[k * 2 + 1]? = some (.int .i64 x.2) := by
  intro l
  induction l with
  | nil => intro k x h; simp at h
  | cons y l ih =>
    intro k x h
    cases k with
    | zero =>
      simp at h
      subst h
      exact ⟨rfl, rfl⟩
    | succ k =>
      have := ih k x (by simpa using h)
      have e : ∀ j, (scells (y :: l))[j + 2]? = (scells l)[j]? := fun j => rfl
      rw [show (k + 1) * 2 = k * 2 + 2 from by omega, show k * 2 + 2 + 1 = k * 2 + 1 + 2 from by omega, e, e]
      exact this
/-- v owns these spots. -/
def OwnS (w : World) (base : Nat) (v : Value) (l : List (Int × Int)) : Prop := w.ownsRow base 43 2 v l.length (scells l)
theorem OwnS.nil_ (w : World) (base : Nat) : OwnS w base (.slice none 0 0) [] := World.ownsRow_nil w base _ 2
theorem OwnS.spts {w : World} {base : Nat} {v : Value} {l : List (Int × Int)} (h : OwnS w base v l) : ∃ a cap, v = .slice a l.length cap ∧ Spts w w.heap.size a l.length cap l := by
  rcases h.2 with ⟨rfl, h0⟩ | ⟨g, cap, cur, rfl, hb, hh, hn, hc, hsz, htk⟩
  · have : l = [] := List.eq_nil_of_length_eq_zero h0
    subst this
    exact ⟨none, 0, rfl, rfl, Nat.le_refl _, by simp [maxLen], fun h => absurd h (by simp)⟩
  · refine ⟨_, cap, rfl, rfl, hn, hc, fun _ => ⟨g, 0, rfl, lt_of_heap hh, fun k x hx => ?_⟩⟩
    have hk := (List.getElem?_eq_some_iff.1 hx).1
    obtain ⟨h1, h2⟩ := scells_get l k x hx
    refine ⟨?_, ?_⟩
    · rw [Nat.zero_add, World.ownsRow.cellAt h (k * 2) (by omega), h1]
    · rw [Nat.zero_add, World.ownsRow.cellAt h (k * 2 + 1) (by omega), h2]
theorem OwnS.book {X Y : World} {row : Option Nat} {base : Nat} {v : Value} {l : List (Int × Int)} (h : OwnS X base v l) (hg : X.grownBy Y row) (hr : ∀ r, row = some r → ∃ o : Obj, X.heap[r]? = some o ∧ o.isCells = false) : OwnS Y base v l := by
  refine World.ownsRow.kept h hg ?_
  rcases h.2 with ⟨rfl, h0⟩ | ⟨g, cap, cur, rfl, hb, hh, _⟩
  · exact .inl rfl
  · refine .inr (fun e => ?_)
    obtain ⟨ob, ho, hcc⟩ := hr g e.symm
    rw [hh] at ho
    injection ho with ho
    subst ho
    cases hcc
theorem info_spot : (Tryd.prog.info? 43).map (fun i => (i.zero, i.size, i.bytes)) = some (some (.agg #[.int .i64 0, .int .i64 0]), 2, 16) := by kernel_rfl

/-- An index of each so many. -/
def ix : List (Nat × Fr) → Nat → Nat → List (Int × Int)
  | [], _, _ => []
  | x :: r, every, c => (if c % every = 0 then [(x.2.seq, (x.1 : Int))] else []) ++ ix r every (c + 1)
theorem ix_snoc : ∀ (l : List (Nat × Fr)) (x : Nat × Fr) (every c : Nat), ix (l ++ [x]) every c = ix l every c ++ (if (c + l.length) % every = 0 then [(x.2.seq, (x.1 : Int))] else []) := by
  intro l
  induction l with
  | nil => intro x every c; simp [ix]
  | cons y l ih =>
    intro x every c
    simp only [List.cons_append, ix, ih, List.length_cons, List.append_assoc]
    rw [show c + 1 + l.length = c + (l.length + 1) from by omega]
theorem ix_len : ∀ (l : List (Nat × Fr)) (every c : Nat), (ix l every c).length ≤ l.length := by
  intro l
  induction l with
  | nil => intro every c; simp [ix]
  | cons y l ih =>
    intro every c
    have := ih every (c + 1)
    simp only [ix, List.length_append, List.length_cons]
    split <;> simp <;> omega
def IxI (every : Nat) (w w1 : World) (pre : List TF) (W : World) : Prop :=
  ((Boxed W w.heap.size 3 (.int .i64 (every : Int)) ∧ Boxed W (w1.heap.size + 1) 3 (.int .i64 (pre.length : Int))) ∧ ∃ v, Boxed W w1.heap.size 37 v ∧ OwnS W w.heap.size v (ix (pre.map TF.pure) every 0)) ∧ Below w.heap.size w W
theorem ixI_own (every : Nat) (w w1 : World) (B : Nat) (hB : w.heap.size ≤ B) : OwnFrom B (IxI every w w1) :=
  OwnFrom.and (OwnFrom.and (OwnFrom.and (Own.from (boxed_own _ _ _) _) (Own.from (boxed_own _ _ (fun (pre : List TF) => Value.int .i64 (pre.length : Int))) _)) (fun s X Y row h hg hr => by
    obtain ⟨v, h1, h2⟩ := h
    exact ⟨v, boxed_own _ _ (fun (_ : Unit) => v) () X Y row h1 hg (fun r e => (hr r e).2), h2.book hg (fun r e => (hr r e).2)⟩)) (ownFrom_below (Nat.le_refl _) hB)
def idx (bs : List Nat) (every : Int) : List (Int × Int) := if (rd bs).2.2.2 ≠ 0 ∨ every < 1 then [] else ix (tolds (bs.take (rd bs).2.2.1) 12) every.toNat 0
def IdxPost (bs : List Nat) (every : Int) (w : World) (e : Ending) (w' : World) : Prop := ∃ v, e = .returned v ∧ OwnS w' w.heap.size v (idx bs every) ∧ Below w.heap.size w w'
theorem read_in (F : Fence) (hF : F = Fence.wide) (m : Nat) {bs : List Nat} {f : Nat} {fs : List Fr} {n er : Nat} (hr : rd bs = (f, fs, n, er)) (a : Option Addr) (len cap : Nat) (w : World) (hs : Sl w w.heap.size a len cap bs) (hlen : len ≤ 100000) :
    CallsIn F m Tryd.prog 7 #[.slice a len cap] w fun e w' => ∃ va vc, e = .returned (.tuple #[.int .i64 (f : Int), .slice va fs.length vc, .int .i64 (n : Int), .int .i64 (er : Int)]) ∧ Frs w' w'.heap.size va fs.length vc fs ∧ Below w.heap.size w w' := by
  subst hF
  exact callsIn_wide.2 (segRead_of hr a len cap w hs hlen)
theorem rd_n (bs : List Nat) (h : (rd bs).2.2.2 = 0) : 12 ≤ (rd bs).2.2.1 ∧ (rd bs).2.2.1 ≤ bs.length := by
  unfold rd at *
  split at h
  · rename_i h1; exact absurd h h1
  · rename_i h1
    rw [if_neg h1]
    obtain ⟨_, h2⟩ := rh_ok bs (by simpa using h1)
    have := scan_le (bs.length + 1) (bs.drop 12) ((rh bs).1 : Int) (by rw [List.length_drop]; omega)
    rw [List.length_drop] at this
    simp only
    omega
theorem toldN_len : ∀ (k : Nat) (bs : List Nat) (at_ : Nat), (toldN k bs at_).length ≤ k := by
  intro k
  induction k with
  | zero => intro bs at_; simp [toldN]
  | succ k ih =>
    intro bs at_
    simp only [toldN]
    split
    · have := ih bs (at_ + (get (bs.drop at_)).2.1)
      simp; omega
    · simp

set_option maxRecDepth 100000 in
set_option maxHeartbeats 4000000 in
theorem index_in (F : Fence) (hF : F = Fence.wide) (n : Nat) (hn : 12 ≤ n) (a : Option Addr) (len cap : Nat) (bs : List Nat) (every : Int) (he : every ≤ 9223372036854775807) (w : World) (hs : Sl w w.heap.size a len cap bs) (hlen : len ≤ 100000) :
    CallsIn F n Tryd.prog 15 #[.slice a len cap, .int .i64 every] w fun e w' => IdxPost bs every w e w' := by
  have hf1 : F.fn 15 := by subst hF; trivial
  have hf2 : F.fn 7 := by subst hF; trivial
  have hf3 : F.fn 32 := by subst hF; trivial
  have hf4 : F.fn 49 := by subst hF; trivial
  have hro : F.round = none := by subst hF; rfl
  have HF := Lib.hid hF
  clear hF
  have h1 : 1 ≤ n := by omega
  have hbl := hs.length
  have hle := hs.le
  have hmx := hs.max
  unfold maxLen at hmx
  have hnn := rd_n bs
  have Hix : Hid (idx bs every = if (rd bs).2.2.2 ≠ 0 ∨ every < 1 then [] else ix (tolds (bs.take (rd bs).2.2.1) 12) every.toNat 0) := rfl
  rcases hr : rd bs with ⟨f, fs, m, er⟩
  rw [hr] at hnn Hix
  simp only at hnn Hix
  have RD := Lib.hid (read_in F HF.out (n - 1) hr a len cap (w.alloc (.cells #[.int .i64 every] 3)) (hs.below ((Below.refl _ w).alloc (Nat.le_refl _) _) (Nat.le_refl _) |>.more (by simp)) hlen)
  clear hr
  have bE := Boxed.new w 3 (.int .i64 every)
  have HE := Lib.hid (And.intro bE ((Below.refl _ w).alloc (Nat.le_refl _) (.cells #[.int .i64 every] 3)))
  clear bE
  refine callsIn_of_wp_marks Tryd.func15 rfl hf1 ?_ hro
  simp only [Tryd.ntmps15, List.size_toArray, List.length_cons, List.length_nil, Nat.reduceAdd, Nat.reduceSub, Array.replicate_succ, Array.replicate_zero, List.push_toArray, List.append_toArray, List.nil_append, List.cons_append]
  gi_wp2_with fail
  refine RD.out.mono ?_
  rintro e w1 ⟨va, vc, rfl, _, hb1⟩
  have bE := (hb1.block _ (lt_of_heap HE.out.1)).trans HE.out.1
  have cE := Boxed.cell bE
  have HB := Lib.hid (And.intro bE (HE.out.2.trans (hb1.mono HE.out.2.size)))
  clear bE hb1 RD HE
  by_cases h0 : er = 0
  · subst h0
    by_cases h1e : every < 1
    · have hd : decide (every < 1) = true := by simpa using h1e
      have hres' := Hix.out
      rw [if_pos (.inr h1e)] at hres'
      have Hr := Lib.hid hres'
      clear hnn h1e hres'
      gi_wp2
      exact ⟨.slice none 0 0, by simp [results, Tryd.results15, go_sem], _, rfl, by rw [Hr.out]; exact OwnS.nil_ _ _, HB.out.2⟩
    · have hd : decide (every < 1) = false := by simpa using h1e
      obtain ⟨ev, rfl⟩ := Int.eq_ofNat_of_zero_le (show 0 ≤ every by omega)
      obtain ⟨hm12, hml⟩ := hnn rfl
      have hres := Hix.out
      rw [if_neg (by simp; omega), Int.toNat_natCast] at hres
      have Hres := Lib.hid hres
      have hml' : (m : Int) ≤ (cap : Int) := by omega
      have sm := hs.take (k := m) (by omega)
      have cm : ∀ w, (Instr.slice 22 (.slice a len cap) none (some (.int .i64 (m : Int))) none).run Tryd.prog w = .ok (.slice a m cap) w := run_cut_to (P := Tryd.prog) 22 5 Tryd.underlying22 info_u8 a len cap m (by omega)
      clear hres hnn
      gi_wp2_with (gi_at_call 32; refine (told_in F (n - 1) hf3 hro _ _ _ _ _).mono ?_; rintro e w2 ⟨rfl, rfl⟩)
      obtain ⟨U1, hU1⟩ : ∃ U, U = w1.alloc (.cells #[.slice none 0 0] 37) := ⟨_, rfl⟩
      have hs1 : U1.heap.size = w1.heap.size + 1 := by rw [hU1]; simp
      have bT := Boxed.new w1 37 (.slice none 0 0)
      have bA := Boxed.new (w1.alloc (.cells #[.slice none 0 0] 37)) 3 (.int .i64 0)
      have bB := Boxed.new ((w1.alloc (.cells #[.slice none 0 0] 37)).alloc (.cells #[.int .i64 0] 3)) 22 (.slice a m cap)
      have bK := Boxed.new (((w1.alloc (.cells #[.slice none 0 0] 37)).alloc (.cells #[.int .i64 0] 3)).alloc (.cells #[.slice a m cap] 22)) 3 (.int .i64 12)
      simp only [World.size_alloc] at bT bA bB bK
      have bB := bB.alloc (.cells #[.int .i64 12] 3)
      have bA := (bA.alloc (.cells #[.slice a m cap] 22)).alloc (.cells #[.int .i64 12] 3)
      have bT := ((bT.alloc (.cells #[.int .i64 0] 3)).alloc (.cells #[.slice a m cap] 22)).alloc (.cells #[.int .i64 12] 3)
      have hb2 : Below w1.heap.size w1 ((((w1.alloc (.cells #[.slice none 0 0] 37)).alloc (.cells #[.int .i64 0] 3)).alloc (.cells #[.slice a m cap] 22)).alloc (.cells #[.int .i64 12] 3)) := ((((Below.refl _ _).alloc (Nat.le_refl _) _).alloc (by simp) _).alloc (by simp; omega) _).alloc (by simp; omega) _
      have hsz : ((((w1.alloc (.cells #[.slice none 0 0] 37)).alloc (.cells #[.int .i64 0] 3)).alloc (.cells #[.slice a m cap] 22)).alloc (.cells #[.int .i64 12] 3)).heap.size = w1.heap.size + 4 := by simp
      clear hU1 hs1
      obtain ⟨W0, hW0⟩ : ∃ W0, (((w1.alloc (.cells #[.slice none 0 0] 37)).alloc (.cells #[.int .i64 0] 3)).alloc (.cells #[.slice a m cap] 22)).alloc (.cells #[.int .i64 12] 3) = W0 := ⟨_, rfl⟩
      rw [hW0] at bT bA bB bK hb2 hsz ⊢
      clear hW0
      have bE := (hb2.block _ (lt_of_heap HB.out.1)).trans HB.out.1
      have hB0 := HB.out.2.trans (hb2.mono HB.out.2.size)
      have hlt1 := lt_of_heap HB.out.1
      have hw0 : w.heap.size ≤ W0.heap.size := hB0.size
      have hsW := sm.below hB0 (Nat.le_refl _)
      have hev : 0 < ev := by omega
      have hN := toldN_len ((bs.take m).length + 1) (bs.take m) 12
      have hN2 : (tolds (bs.take m) 12).length ≤ 100001 := by have h2 : (bs.take m).length ≤ len := (by rw [List.length_take, hbl]; exact Nat.min_le_right _ _); exact Nat.le_trans hN (by omega)
      clear cE hN
      refine range_tells hro h1 (gf := 49) (lb := #[.pointer (some ⟨w1.heap.size + 1 + 1 + 1, 0, none⟩), .pointer (some ⟨w1.heap.size + 1 + 1, 0, none⟩)]) rfl hf4 (enters_of Tryd.func49 (by kernel_rfl) rfl)
        (told_tells F HF.out (n - 1) (by omega) (w1.heap.size + 1 + 1 + 1) (w1.heap.size + 1 + 1) w.heap.size a m cap (bs.take m) 12 hm12 W0 bK bB hw0 hsW) Kpt.trans (Kpt.book hw0) (fun _ => rfl)
        (IxI ev w w1) (fun _ _ _ => False) (ixI_own ev w w1 _ hw0) (fun _ _ _ _ _ h _ _ => h) ⟨⟨⟨bE, bA⟩, _, bT, OwnS.nil_ _ _⟩, hB0⟩
        (fun x a' W => ∃ Bx, w1.heap.size + 1 < Bx ∧ W.heap[Bx]? = some (frCells x.f x.ba x.bc) ∧ a' = { tmps := #[.slice a len cap, .int .i64 (ev : Int), undef, .pointer (some ⟨w.heap.size, 0, none⟩), .slice none 0 0, .int .i64 (f : Int), .slice va fs.length vc, .int .i64 (m : Int), .int .i64 0, .pointer (some ⟨w1.heap.size, 0, none⟩), .pointer (some ⟨w1.heap.size + 1, 0, none⟩), .int .i64 (x.at_ : Int), .pointer (some ⟨Bx, 0, none⟩), .tuple #[.int .i64 (f : Int), .slice va fs.length vc, .int .i64 (m : Int), .int .i64 0], .slice a len cap, .tuple #[.int .i64 (f : Int), .slice va fs.length vc, .int .i64 (m : Int), .int .i64 0], .int .i64 (f : Int), .slice va fs.length vc, .int .i64 (m : Int), .int .i64 0, .int .i64 0, .bool false, .bool false, .int .i64 (ev : Int), .bool false, .bool false, .slice a len cap, .int .i64 (m : Int), .slice a m cap, .func (.func 49) #[] #[.pointer (some ⟨w1.heap.size + 1 + 1 + 1, 0, none⟩), .pointer (some ⟨w1.heap.size + 1 + 1, 0, none⟩)], .int .i64 (x.at_ : Int), .agg #[.int .i64 x.f.ty, .int .i64 x.f.seq, .slice x.ba x.f.body.length x.bc], undef, undef, undef, undef, undef, undef, undef, undef, undef, undef, undef, undef, undef, undef], defers := [] })
        (fun x a' _ X Y row h hg hr => by
          obtain ⟨Bx, e1, e2, e4⟩ := h
          exact ⟨Bx, e1, cell_own _ (fun (_ : Unit) => frCells x.f x.ba x.bc) (fun _ => rfl) () X Y row e2 hg (fun r e => (hr r e).2), e4⟩)
        ?assign ?body ?done ?stop
      case assign =>
        rintro l pre x W K ⟨⟨⟨b1, b2⟩, v, b3, hO⟩, hB1⟩ hM hK
        simp only [TF.enc]
        gi_wp2
        exact hK _ _ ((KeepsOthers.alloc _ _).from _) (Kpt.of_below ((Below.refl _ W).alloc (Nat.le_refl _) _) hB1.size) ⟨⟨⟨b1.alloc _, b2.alloc _⟩, v, b3.alloc _, World.ownsRow.alloc hO _⟩, hB1.alloc hB1.size _⟩ ⟨W.heap.size, b2.lt, heap_alloc_new W _, rfl⟩
      case body =>
        rintro l pre x a' W ⟨⟨⟨b1, b2⟩, v, b3, hO⟩, hB1⟩ ⟨Bx, hBx, hX, rfl⟩ hlt
        have u0 := (cell_of_row W Bx 0 _ _ _ hX).trans rfl
        have u1 := (cell_of_row W Bx 1 _ _ _ hX).trans rfl
        have u2 := (cell_of_row W Bx 2 _ _ _ hX).trans rfl
        have cE := b1.cell
        have cA := b2.cell
        have fA := b2.frozen
        have cT := b3.cell
        have fT := b3.frozen
        have hpl : pre.length ≤ 100001 := by omega
        have hsn := ix_snoc (pre.map TF.pure) x.pure ev 0
        rw [Nat.zero_add, List.length_map] at hsn
        have hxl := ix_len (pre.map TF.pure) ev 0
        rw [List.length_map] at hxl
        obtain ⟨c, hc⟩ : ∃ c, c = pre.length := ⟨_, rfl⟩
        have hpl1 : ((pre ++ [x]).length : Int) = (c : Int) + 1 := by rw [List.length_append, hc]; simp
        rw [← hc] at cA hpl hsn hxl
        have HPL := Lib.hid hpl1
        clear hpl1
        have hsx : x.pure = (x.at_, x.f) := rfl
        by_cases hz : c % ev = 0
        · rw [if_pos hz] at hsn
          have hzi : ((c : Int) % (ev : Int) == 0) = true := by
            have : (c : Int) % (ev : Int) = 0 := by rw [← Int.natCast_emod, hz]; rfl
            simpa using this
          obtain ⟨i2, hi2, hz0, hz1, hz2⟩ := info_parts info_spot
          have HK := Lib.hid (And.intro b1 (And.intro b2 (And.intro b3 (And.intro hO (And.intro hB1 hsn)))))
          have hOa : ∀ o, OwnS (W.alloc o) w.heap.size v (ix (pre.map TF.pure) ev 0) := fun o => World.ownsRow.alloc hO o
          have HOa := Lib.hid hOa
          have hBs := hB1.size
          have hxl' : (ix (pre.map TF.pure) ev 0).length ≤ 100001 := by omega
          clear hsn hO b1 b2 b3 hB1 hz hc hsx hOa
          gi_wp2_with (gi_at_builtin; refine wpListIn_append_own_at _ rfl (.tmp 36) (.tmp 41) 37 rfl w.heap.size 43 i2 (.agg #[.int .i64 0, .int .i64 0]) 2 16 Tryd.underlying37 hi2 hz0 hz1 hz2 rfl (by decide) v _ _ rfl (HOa.out _) ⟨W.heap.size, 0, none⟩ 1 1 [.int .i64 x.f.seq, .int .i64 (x.at_ : Int)] rfl rfl (World.news_of_block (heap_alloc_new W _)) (by intro u hu; simp at hu; rcases hu with rfl | rfl <;> rfl) (by unfold maxLen; omega) (by omega) (by simp; omega) ?_; intro v2 w2 hO2 hg2 _ _; obtain ⟨g2, c2, rfl⟩ := ownsRow_succ hO2; obtain ⟨p1, p2, p3, p4, p5⟩ := Boxed.appended HK.out.2.2.1 (by decide) HK.out.2.2.2.1 hBs (by omega) hO2 hg2; have cT := p1.cell; have fT := p1.frozen; have q1 := (HK.out.1.alloc _).kept hg2 (HK.out.1.not_row (by decide) HK.out.2.2.2.1); have q2 := (HK.out.2.1.alloc _).kept hg2 (HK.out.2.1.not_row (by decide) HK.out.2.2.2.1); have qb : ∀ u, Boxed W (w1.heap.size + 1 + 1) 22 u → Boxed w2 (w1.heap.size + 1 + 1) 22 u := fun u hu => (hu.alloc _).kept hg2 (hu.not_row (by decide) HK.out.2.2.2.1); have cA := q2.cell; have fA := q2.frozen; have HP := Lib.hid (And.intro p2 (And.intro p3 (And.intro p4 (And.intro p5 (And.intro q1 (And.intro q2 qb)))))); clear p1 p2 p3 p4 p5 q1 q2 qb hO2 hg2)
          obtain ⟨_, _, _, _, hB1, hsn⟩ := HK.out
          obtain ⟨p2, p3, p4, p5, q1, q2, qb⟩ := HP.out
          have q2' := q2.other (B' := w1.heap.size) (by omega) (.slice (some ⟨g2, 0, none⟩) ((ix (pre.map TF.pure) ev 0).length + 1) c2)
          refine ⟨(p4.trans (KeepsOthers.setCell _ _ _)).from _, ⟨p5.setCell (by show w.heap.size ≤ w1.heap.size + 1; omega) _, fun u hu => ((qb u hu).other (by omega) _).other (by omega) _⟩, ⟨⟨⟨(q1.other (by omega) _).other (by omega) _, by rw [show ((pre ++ [x]).length : Int) = (pre.length : Int) + 1 from by rw [List.length_append]; simp]; exact q2'.set _⟩, _, p2.other (by omega) _, ?_⟩, (hB1.trans p5).setCell (by show w.heap.size ≤ w1.heap.size + 1; omega) _⟩⟩
          rw [List.map_append, List.map_cons, List.map_nil, hsn]
          unfold OwnS
          rw [List.length_append, scells_snoc]
          exact World.ownsRow.kept p3 (grownBy_setCell' _ _ _) (.inr (q2'.not_row (by decide) p3).symm)
        · rw [if_neg hz] at hsn
          have hzi : ((c : Int) % (ev : Int) == 0) = false := by
            rw [beq_eq_false_iff_ne]
            intro h
            rw [← Int.natCast_emod] at h
            exact hz (by exact_mod_cast h)
          have HK := Lib.hid (And.intro b1 (And.intro b2 (And.intro b3 (And.intro hO (And.intro hB1 hsn)))))
          clear hsn hO b1 b2 b3 hB1 hz hc hsx
          gi_wp2
          obtain ⟨b1, b2, b3, hO, hB1, hsn⟩ := HK.out
          refine ⟨(KeepsOthers.setCell _ _ _).from _, ⟨(Below.refl _ _).setCell (by show w.heap.size ≤ w1.heap.size + 1; omega) _, fun u hu => hu.other (by omega) _⟩, ⟨⟨⟨b1.other (by omega) _, by rw [HPL.out]; exact b2.set _⟩, _, b3.other (by omega) _, ?_⟩, hB1.setCell (by show w.heap.size ≤ w1.heap.size + 1; omega) _⟩⟩
          rw [List.map_append, List.map_cons, List.map_nil, hsn, List.append_nil]
          exact World.ownsRow.kept hO (grownBy_setCell' _ _ _) (.inr (b2.not_row (by decide) hO).symm)
      case done =>
        rintro D ys W hD hS ⟨⟨⟨b1, b2⟩, v, b3, hO⟩, hB1⟩ hK
        have cT := b3.cell
        have HK := Lib.hid (And.intro hK (And.intro hO hB1))
        clear b1 b2 b3 hK hO hB1
        gi_wp2
        refine ⟨by simp, .inl ⟨_, _, rfl, run_takeDeferred HK.out.1, ?_⟩⟩
        have hpt := grownBy_putObj' W D (.deferred none)
        have hro' : ∀ r, (some D) = some r → ∃ o : Obj, W.heap[r]? = some o ∧ o.isCells = false := fun r e => by cases e; exact ⟨_, HK.out.1, rfl⟩
        exact ⟨v, by simp [results, Tryd.results15, go_sem], v, rfl, by rw [Hres.out, ← hS]; exact HK.out.2.1.book hpt hro', HK.out.2.2.trans (belowK_b (w := w) (Nat.le_refl _) _ D _ _ (by omega) HK.out.1 rfl rfl)⟩
      case stop =>
        rintro D c pre W hD _ h _
        exact h.elim
  · have hd : ((er : Int) != 0) = true := by simp; omega
    have hres' := Hix.out
    rw [if_pos (.inl h0)] at hres'
    have Hr := Lib.hid hres'
    clear hnn h0 hres'
    gi_wp2
    exact ⟨.slice none 0 0, by simp [results, Tryd.results15, go_sem], _, rfl, by rw [Hr.out]; exact OwnS.nil_ _ _, HB.out.2⟩
theorem index_any (a : Option Addr) (len cap : Nat) (bs : List Nat) (every : Int) (he : every ≤ 9223372036854775807) (w : World) (hs : Sl w w.heap.size a len cap bs) (hlen : len ≤ 100000) :
    Calls Tryd.prog 15 #[.slice a len cap, .int .i64 every] w fun e w' => IdxPost bs every w e w' :=
  callsIn_wide.1 (index_in Fence.wide rfl 12 (Nat.le_refl _) a len cap bs every he w hs hlen)
end Go.Proofs.YtiiellclnmakpaaDoor
