/- Contracts of the program's disk: Write. -/
import Derived.Test.YtohiheohndmccaaDkI
namespace Go.Proofs.Ytohiheohndmccaa
open Go.RowKit
open Go.Maps
attribute [local go_sem] Oper.semAt_some

def St.write (t : St) (s : List UInt8) (b : List Nat) : Int × St :=
  if t.fuse = 0 then (42, t) else
  if nmOk s = false then (1, t.burnt) else
  if fitsB t.D t.room s b.length = false then (5, t.burnt) else
  (0, { t.burnt with D := t.D.put (.string s) (.held ⟨((fat t.D s).getD Fl.zero).bs ++ b, ((fat t.D s).getD Fl.zero).l⟩) })
section
variable {w : World} {dp mb room : Nat} {C : DataW Fe} {D : FS} {fuse fails : Int} {O : Nat → Prop}
/-- What the closure of Write answers. -/
def wrOf1 (D : FS) (room : Nat) (fuse fails : Int) (s : List UInt8) (b : List Nat) : Int × St :=
  if nmOk s = false then (1, ⟨D, room, fuse, fails⟩) else
  if fitsB D room s b.length = false then (5, ⟨D, room, fuse, fails⟩) else
  (0, ⟨D.put (.string s) (.held ⟨((fat D s).getD Fl.zero).bs ++ b, ((fat D s).getD Fl.zero).l⟩), room, fuse, fails⟩)
theorem DskC.file_ (h : DskC w dp mb C D room fuse fails O) (s : List UInt8) : (cat C (.string s)).l = (((fat D s).getD Fl.zero).l : Int) ∧ OwnB w 0 5 (cat C (.string s)).sl ((fat D s).getD Fl.zero).bs ∧
    (∀ c ∈ ((fat D s).getD Fl.zero).bs, c < 256) ∧ ((fat D s).getD Fl.zero).l ≤ ((fat D s).getD Fl.zero).bs.length ∧ ((fat D s).getD Fl.zero).bs.length ≤ 1048576 ∧
    (∀ k f' b, k ≠ .string s → look C k = some (.held f') → (cat C (.string s)).sl.ownBlock = some b → f'.sl.ownBlock ≠ some b) ∧ (∀ b, (cat C (.string s)).sl.ownBlock = some b → O b ∧ b ≠ mb ∧ b ≠ dp) ∧
    (∀ b, (cat C (.string s)).sl.ownBlock = some b → look C (.string s) = some (.held (cat C (.string s)))) := by
  cases hf : fat D s with
  | none =>
    obtain ⟨h1, h2⟩ := h.files.cat_none h.good s hf
    rw [h2]
    refine ⟨rfl, OwnB.nil_ _ _ _, fun c hc => ?_, Nat.le_refl _, Nat.zero_le _, fun k f' b _ _ hb => ?_, fun b hb => ?_, fun b hb => ?_⟩
    · cases hc
    · cases hb
    · cases hb
    · cases hb
  | some g =>
    have hC := h.files.cat_ s g hf
    exact ⟨hC.2.1, hC.2.2, (h.good.at_ hf).2.2.1, (h.good.at_ hf).2.1, h.room_ hf, fun k f' b hk hl hb he => hk (h.files.apart k _ f' _ b hl hC.1 he hb), fun b hb => h.files.fileO _ _ b hC.1 hb, fun b _ => hC.1⟩
theorem good_write (h : Good D room) {s : List UInt8} {b : List Nat} (hb : ∀ c ∈ b, c < 256) (hn : nmOk s = true) (hf : fitsB D room s b.length = true) (h1 : ∀ c ∈ ((fat D s).getD Fl.zero).bs, c < 256) (h2 : ((fat D s).getD Fl.zero).l ≤ ((fat D s).getD Fl.zero).bs.length) :
    Good (D.put (.string s) (.held ⟨((fat D s).getD Fl.zero).bs ++ b, ((fat D s).getD Fl.zero).l⟩)) room := by
  unfold fitsB at hf
  simp only [Bool.and_eq_true, Bool.or_eq_true, decide_eq_true_eq] at hf
  exact h.put hn (by simp; omega) (fun c hc => by rcases List.mem_append.1 hc with hc | hc; exact h1 c hc; exact hb c hc) hf.1 (by simp; omega)
set_option linter.unusedSimpArgs false in
set_option maxRecDepth 100000 in
set_option maxHeartbeats 3200000 in
theorem write1_any (h : DskC w dp mb C D room fuse fails O) (s : ByteArray) (hs : s.size ≤ 281474976710656) (a : Option Addr) (n c : Nat) (b : List Nat) (hsl : Sl w w.heap.size a n c b) (hn : n ≤ 140737488351232) (hfar : 0 < n → ∀ k o, a = some ⟨k, o, none⟩ → ¬ O k)
    (bn bd bb : Nat) (c1 : w.cell? ⟨bn, 0, none⟩ = some (.string s)) (c2 : w.cell? ⟨bd, 0, none⟩ = some (.pointer (some ⟨dp, 0, none⟩))) (c3 : w.cell? ⟨bb, 0, none⟩ = some (.slice a n c)) (hbn : ¬ O bn) (hbd : ¬ O bd) :
    Calls Try.prog 37 #[.pointer (some ⟨bn, 0, none⟩), .pointer (some ⟨bd, 0, none⟩), .pointer (some ⟨bb, 0, none⟩)] w (Tells1 (Left w dp O (wrOf1 D room fuse fails s.data.toList b))) := by
  have hlen := hsl.length
  have IN := Lib.hid (isName_any s (by unfold maxLen; omega))
  cases hnm : nmOk s.data.toList with
  | false =>
    have hr : wrOf1 D room fuse fails s.data.toList b = (1, ⟨D, room, fuse, fails⟩) := by unfold wrOf1; rw [if_pos hnm]
    rw [hr]
    rw [hnm] at IN
    have HL := Lib.hid (Left.same (w := w) (x := 1) (t := ⟨D, room, fuse, fails⟩) h (But.refl O w))
    clear h hnm hr hsl hlen
    go_enter Try.func37, Try.ntmps37
    go_wp2_with (go_at_call 38; refine (IN.out _).mono ?_; rintro e w' ⟨rfl, rfl⟩)
    go_ret
    exact ⟨1, rfl, HL.out⟩
  | true =>
    rw [hnm] at IN
    have FT := Lib.hid (fits_any h s (by unfold maxLen; omega) n (by omega))
    cases hft : fitsB D room s.data.toList n with
    | false =>
      have hr : wrOf1 D room fuse fails s.data.toList b = (5, ⟨D, room, fuse, fails⟩) := by unfold wrOf1; rw [if_neg (by rw [hnm]; decide), hlen, if_pos hft]
      rw [hr]
      rw [hft] at FT
      have HH := Lib.hid h
      clear h hnm hr hsl hlen hft
      go_enter Try.func37, Try.ntmps37
      go_wp2_with (first | (go_at_call 38; refine (IN.out _).mono ?_; rintro e w' ⟨rfl, rfl⟩) | fail)
      refine FT.out.mono ?_
      rintro e w2 ⟨rfl, hb2⟩
      have HB := Lib.hid hb2
      clear hb2
      go_wp2
      go_ret
      exact ⟨5, rfl, Left.same (t := ⟨D, room, fuse, fails⟩) (HH.out.below HB.out) (But.of_below HB.out)⟩
    | true =>
      have hr : wrOf1 D room fuse fails s.data.toList b = (0, ⟨D.put (.string s.data.toList) (.held ⟨((fat D s.data.toList).getD Fl.zero).bs ++ b, ((fat D s.data.toList).getD Fl.zero).l⟩), room, fuse, fails⟩) := by
        unfold wrOf1; rw [if_neg (by rw [hnm]; decide), hlen, if_neg (by rw [hft]; decide)]
      rw [hr]
      rw [hft] at FT
      obtain ⟨f1, f2, f3, f4, f5, f6, f7, f8⟩ := h.file_ s.data.toList
      have hn20 : n ≤ 1048576 := by
        have h1 := hft
        unfold fitsB at h1
        simp only [Bool.and_eq_true, decide_eq_true_eq] at h1
        have h2 := h.good.room_
        omega
      have hgw := good_write h.good hsl.byte hnm (by rw [hlen]; exact hft) f3 f4
      have HH := Lib.hid (And.intro h (And.intro f6 (And.intro f7 (And.intro f8 (And.intro hgw (And.intro f1 (And.intro f3 hsl)))))))
      have hl1 := block_lt_of_cell c1
      have hl2 := block_lt_of_cell c2
      have hl3 := block_lt_of_cell c3
      generalize hg : (fat D s.data.toList).getD Fl.zero = g at *
      clear hnm hr hft hgw f6 f7 f8 f1 hg f4
      go_enter Try.func37, Try.ntmps37
      go_wp2_with (first | (go_at_call 38; refine (IN.out _).mono ?_; rintro e w' ⟨rfl, rfl⟩) | fail)
      refine FT.out.mono ?_
      rintro e w2 ⟨rfl, hb2⟩
      have k1 := (hb2.cell (p := ⟨bn, 0, none⟩) hl1).trans c1
      have k2 := (hb2.cell (p := ⟨bd, 0, none⟩) hl2).trans c2
      have k3 := (hb2.cell (p := ⟨bb, 0, none⟩) hl3).trans c3
      have h2 := h.below hb2
      have SS := Lib.hid (fun (w' : World) (hb : Below w2.heap.size w2 w') => h2.sees (s := s) (by unfold maxLen; omega) k2 k1 hb)
      have S0 := SS.out w2.drew (Below.drew (Below.refl _ _))
      have own2 := f2.below hb2
      have sl2 := (hsl.below hb2 (Nat.le_refl _)).more hb2.size
      unfold Sees at S0 SS
      generalize cat C (.string s.data.toList) = f at *
      have HB : Below w2.heap.size w2 (w2.alloc (.cells #[.slice f.a f.n f.c, .int .i64 f.l] 56)).drew := Below.drew ((Below.refl _ _).alloc (Nat.le_refl _) _)
      have own3 : OwnB (w2.alloc (.cells #[.slice f.a f.n f.c, .int .i64 f.l] 56)).drew 0 5 (.slice f.a f.n f.c) g.bs := own2.below HB
      have sl3 := sl2.below HB (Nat.le_refl _)
      have ob : f.sl.ownBlock ≠ some w2.heap.size := fun e => by have := (own2.at_base e).2; omega
      have H2 := Lib.hid (And.intro h2 (And.intro hb2 (And.intro own3 sl3)))
      clear h h2 own2 sl2 hsl f2 c1 c2 c3 hb2 FT IN
      go_wp2_with fail
      refine wp_region_held_drew (S := fun x => x.cell? ⟨dp, 0, none⟩ = some (.map (some mb)) ∧ x.cell? ⟨bd, 0, none⟩ = some (.pointer (some ⟨dp, 0, none⟩)) ∧ x.cell? ⟨bn, 0, none⟩ = some (.string s) ∧
        (Instr.lookup 49 (.map (some mb)) (.string s) false).run Try.prog x = .ok (.agg #[.slice f.a f.n f.c, .int .i64 f.l]) x) (by kernel_rfl) ⟨S0.1, S0.2.1, S0.2.2.1, S0.2.2.2.2⟩ (fun hHeld => ?_)
      refine wpAnyH_take (i := 0) (v := ?_) rfl (by kernel_rfl) (by kernel_rfl) (by kernel_rfl) (fun _ _ _ h => h) (Or.inl ⟨by rfl, ?_⟩) (by assumption) ?_
      rotate_left
      · intro w hSw
        (try dsimp only at hSw)
        go_simp
        all_goals with_reducible rfl
      try simp only [Act.put, List.getElem_toArray, List.getElem_cons_succ, List.getElem_cons_zero, List.setIfInBounds_toArray, List.set_cons_zero, List.set_cons_succ]
      refine wpAnyH_take (i := 1) (v := ?_) rfl (by kernel_rfl) (by kernel_rfl) (by kernel_rfl) (fun _ _ _ h => h) (Or.inl ⟨by rfl, ?_⟩) (by assumption) ?_
      rotate_left
      · intro w hSw
        (try dsimp only at hSw)
        go_simp
        all_goals with_reducible rfl
      try simp only [Act.put, List.getElem_toArray, List.getElem_cons_succ, List.getElem_cons_zero, List.setIfInBounds_toArray, List.set_cons_zero, List.set_cons_succ]
      refine wpAnyH_take (i := 2) (v := ?_) rfl (by kernel_rfl) (by kernel_rfl) (by kernel_rfl) (fun _ _ _ h => h) (Or.inl ⟨by rfl, ?_⟩) (by assumption) ?_
      rotate_left
      · intro w hSw
        (try dsimp only at hSw)
        go_simp
        all_goals with_reducible rfl
      try simp only [Act.put, List.getElem_toArray, List.getElem_cons_succ, List.getElem_cons_zero, List.setIfInBounds_toArray, List.set_cons_zero, List.set_cons_succ]
      refine wpAnyH_take (i := 3) (v := ?_) rfl (by kernel_rfl) (by kernel_rfl) (by kernel_rfl) (fun _ _ _ h => h) (Or.inl ⟨by rfl, ?_⟩) (by assumption) ?_
      rotate_left
      · intro w hSw
        (try dsimp only at hSw)
        go_simp
        all_goals with_reducible rfl
      try simp only [Act.put, List.getElem_toArray, List.getElem_cons_succ, List.getElem_cons_zero, List.setIfInBounds_toArray, List.set_cons_zero, List.set_cons_succ]
      refine wpAnyH_take (i := 4) (v := ?_) rfl (by kernel_rfl) (by kernel_rfl) (by kernel_rfl) (fun _ _ _ h => h) (Or.inl ⟨by rfl, ?_⟩) (by assumption) ?_
      rotate_left
      · intro w hSw
        (try dsimp only at hSw)
        go_simp
        all_goals with_reducible rfl
      try simp only [Act.put, List.getElem_toArray, List.getElem_cons_succ, List.getElem_cons_zero, List.setIfInBounds_toArray, List.set_cons_zero, List.set_cons_succ]
      refine wpAnyH_take (i := 5) (v := ?_) rfl (by kernel_rfl) (by kernel_rfl) (by kernel_rfl) (fun _ _ _ h => h) (Or.inl ⟨by rfl, ?_⟩) (by assumption) ?_
      rotate_left
      · intro w hSw
        (try dsimp only at hSw)
        go_simp
        all_goals with_reducible rfl
      try simp only [Act.put, List.getElem_toArray, List.getElem_cons_succ, List.getElem_cons_zero, List.setIfInBounds_toArray, List.set_cons_zero, List.set_cons_succ]
      refine wpAnyH_ready (rs := [6]) (by kernel_rfl) (by simp) ?_
      refine AllReadyH.cons rfl (fun K hK => ?_) AllReadyH.nil
      rw [if_pos (by rfl)]
      go_simp
      have S1 := SS.out _ ((Below.drew (Below.refl w2.heap.size w2)).alloc (Nat.le_refl _) (.cells #[.slice none 0 0, .int .i64 0] 56))
      refine hK.out _ _ ?_ (fun hHeld => ?_)
      · exact ⟨S1.1, S1.2.1, S1.2.2.1, S1.2.2.2.2⟩
      clear hK K
      try simp only [Act.put, List.getElem_toArray, List.getElem_cons_succ, List.getElem_cons_zero, List.setIfInBounds_toArray, List.set_cons_zero, List.set_cons_succ]
      refine wpAnyH_ready (rs := [7]) (by kernel_rfl) (by simp) ?_
      refine AllReadyH.cons rfl (fun K hK => ?_) AllReadyH.nil
      rw [if_pos (by rfl)]
      go_simp
      have S2 := SS.out _ HB
      refine hK.out _ _ ?_ (fun hHeld => ?_)
      · exact ⟨S2.1, S2.2.1, S2.2.2.1, S2.2.2.2.2⟩
      clear hK K
      try simp only [Act.put, List.getElem_toArray, List.getElem_cons_succ, List.getElem_cons_zero, List.setIfInBounds_toArray, List.set_cons_zero, List.set_cons_succ]
      refine wpAnyH_done (by kernel_rfl) ?_ _
      clear S0 S1 S2 hHeld
      have j1 := (HB.cell (p := ⟨bn, 0, none⟩) (block_lt_of_cell k1)).trans k1
      have j2 := (HB.cell (p := ⟨bd, 0, none⟩) (block_lt_of_cell k2)).trans k2
      have j3 := (HB.cell (p := ⟨bb, 0, none⟩) (block_lt_of_cell k3)).trans k3
      have hz3 : (w2.alloc (.cells #[.slice f.a f.n f.c, .int .i64 f.l] 56)).drew.heap[w2.heap.size]? = some (.cells #[.slice f.a f.n f.c, .int .i64 f.l] 56 (0, 0)) := heap_alloc_new w2 _
      have HB' := Lib.hid (And.intro HB hz3)
      have nb1 : bn ≠ w2.heap.size := by have : bn < w2.heap.size := block_lt_of_cell k1; omega
      have nb2 : bd ≠ w2.heap.size := by have : bd < w2.heap.size := block_lt_of_cell k2; omega
      clear k1 k2 k3 hz3 HB SS
      go_wp2_with (first
        | (at_builtin
           go_loud (
           refine wpList_append_sl rfl (.tmp 21) (.tmp 22) _ rfl 0 _ Try.underlying31 info_u8 _ g.bs rfl H2.out.2.2.1 _ a n c b rfl H2.out.2.2.2 (by omega) (Nat.zero_le _) ?_
           intro v1 w4 ho1 hg1 hat1
           obtain ⟨a1, c1, rfl, -⟩ := ho1.sl (fun c hc => by rcases List.mem_append.1 hc with hc | hc; exact f3 c hc; exact H2.out.2.2.2.byte c hc)
           have hob : ∀ k, ¬ O k → some k ≠ (Value.slice f.a f.n f.c).ownBlock := fun k hk e => hk (HH.out.2.2.1 k e.symm).1
           have q1 := hg1.cell j1 (hob bn hbn)
           have q2 := hg1.cell j2 (hob bd hbd)
           have z4 := (hg1.block w2.heap.size (by simp) (fun e => ob e.symm)).trans HB'.out.2
           have q4 := frozen_of_row w4 w2.heap.size 0 _ _ z4
           have q5 := (cell_of_row w4 w2.heap.size 0 _ _ _ z4).trans rfl
           have q6 := (cell_of_row w4 w2.heap.size 1 _ _ _ z4).trans rfl
           have H4 := Lib.hid (And.intro ho1 (And.intro hg1 hat1))
           clear ho1 hg1 hat1 j1 j2 j3 hob z4))
        | fail)
      obtain ⟨h2, hb2, _, sl3⟩ := H2.out
      obtain ⟨_, f6, f7, f8, hgw, f1, _, hsl⟩ := HH.out
      obtain ⟨ho1, hg1, hat1⟩ := H4.out
      have hO2 : ∀ k, O k → k < w2.heap.size := h2.lt
      have hlb : (g.bs ++ b).length = g.bs.length + n := by rw [List.length_append, hlen]
      have ho1 : OwnB w4 0 5 (.slice a1 (g.bs.length + n) c1) (g.bs ++ b) := by rw [← hlb]; simpa [hlen] using ho1
      have hat : ∀ k, (Value.slice a1 (g.bs.length + n) c1).ownBlock = some k → f.sl.ownBlock = some k ∨ k = w2.heap.size + 1 := fun k hk => by
        rcases hat1 with h | h
        · left
          have h' : (Value.slice a1 (g.bs ++ b).length c1).ownBlock = f.sl.ownBlock := h
          rw [hlb] at h'
          rw [← hk]
          exact h'.symm
        · right
          have : (Value.slice a1 (g.bs.length + n) c1).ownBlock = some (w2.heap.size + 1) := by simpa [hlen] using h
          rw [this] at hk
          injection hk with hk
          exact hk.symm
      have hz5 : w2.heap.size + 1 ≤ w4.heap.size := by have := hg1.size; simpa using this
      have hX : DskX (w4.setCell ⟨w2.heap.size, 0, none⟩ (.slice a1 (g.bs.length + n) c1)) dp mb C D room fuse fails O s.data.toList := by
        refine ((h2.x s.data.toList).below HB'.out.1).same (fun k hk hno => ?_) (by simp [World.setCell]; omega)
        have hkl := hO2 k hk
        refine (Below.heap_setCell _ ⟨w2.heap.size, 0, none⟩ _ k (by show k ≠ w2.heap.size; omega)).trans (hg1.block k (by simp; omega) (fun e => ?_))
        exact hno f (f8 k e.symm) e.symm
      have hne5 : (Value.slice a1 (g.bs.length + n) c1).ownBlock ≠ some w2.heap.size := fun e => by
        rcases hat _ e with h | h
        · exact ob h
        · omega
      have hO5 : OwnB (w4.setCell ⟨w2.heap.size, 0, none⟩ (.slice a1 (g.bs.length + n) c1)) 0 5 (.slice a1 (g.bs.length + n) c1) (g.bs ++ b) := World.ownsRow.kept ho1 (grownBy_setCell w4 ⟨w2.heap.size, 0, none⟩ (.slice a1 (g.bs.length + n) c1)) (.inr (fun e => hne5 e))
      have hB5 : But O w (w4.setCell ⟨w2.heap.size, 0, none⟩ (.slice a1 (g.bs.length + n) c1)) := by
        refine ((((But.of_below (O := O) hb2).trans (But.of_below (O := O) HB'.out.1) (fun _ hi => .inl hi)).trans (But.grown (O := O) hg1 (fun k hk => (f7 k hk).1)) (fun _ hi => .inl hi))).setCell (p := ⟨w2.heap.size, 0, none⟩) (.inr hb2.size) _
      have LY := Lib.hid (lay_any s hX hs ⟨a1, g.bs.length + n, c1, f.l⟩ ⟨g.bs ++ b, g.l⟩ f1 hO5
        (fun k f' blk hk hl hb he => by
          rcases hat blk hb with h | h
          · exact f6 k f' blk hk hl h he
          · have := hO2 blk (h2.files.fileO k f' blk hl he).1
            omega)
        (fun blk hb => by
          rcases hat blk hb with h | h
          · exact (f7 blk h).2
          · have h3 := hO2 mb h2.files.inO
            have h4 := hO2 dp h2.dpO
            omega) hgw)
      have HA := Lib.hid (And.intro hB5 (And.intro hat (And.intro f7 hb2.size)))
      clear h2 hb2 sl3 f6 f7 f8 hgw f1 hsl ho1 hg1 hat1 hO2 hlb hat hz5 hX hne5 hO5 hB5
      refine LY.out.mono ?_
      rintro e w6 hL
      have he := hL.1
      subst he
      have HL := Lib.hid hL
      clear hL LY
      go_wp2
      go_ret
      exact ⟨0, rfl, Left.laid HL.out HA.out.1 (fun k hk => by
        rcases HA.out.2.1 k hk with h | h
        · exact .inl (HA.out.2.2.1 k h).1
        · right
          have := HA.out.2.2.2
          omega)⟩
end
end Go.Proofs.Ytohiheohndmccaa
