/- Rows of frames in memory; the reference's Same. -/
import Derived.Test.YtiiellclnmakpaaDoorLine
import Derived.Test.YtiiellclnmakpaaDoorFrm
import Derived.Test.YtiiellclnmakpaaDoorProg
import Derived.Test.YtiiellclnmakpaaDoorChecked
import Derived.Deep.QuietTactic
import Derived.BigQuiet
namespace Go.Proofs.YtiiellclnmakpaaDoor
open Go.RowKit
open Frm

/-- A slice of frames that lies below block B reads as fs. -/
structure Frs (w : World) (B : Nat) (a : Option Addr) (len cap : Nat) (fs : List Fr) : Prop where
  length : fs.length = len
  le : len ≤ cap
  max : cap ≤ maxLen
  at_ : 0 < len → ∃ b o, a = some ⟨b, o, none⟩ ∧ b < B ∧ ∀ k f, fs[k]? = some f → ∃ ba bc, w.cell? ⟨b, o + k * 3, none⟩ = some (.int .i64 f.ty) ∧ w.cell? ⟨b, o + k * 3 + 1, none⟩ = some (.int .i64 f.seq) ∧
    w.cell? ⟨b, o + k * 3 + 2, none⟩ = some (.slice ba f.body.length bc) ∧ Sl w B ba f.body.length bc f.body
theorem Frs.below {w w' : World} {B B' : Nat} {a : Option Addr} {len cap : Nat} {fs : List Fr} (h : Frs w B a len cap fs) (hb : Below B' w w') (hB : B ≤ B') : Frs w' B' a len cap fs :=
  ⟨h.length, h.le, h.max, fun hp => by
    obtain ⟨b, o, e, hlt, hc⟩ := h.at_ hp
    refine ⟨b, o, e, by omega, fun k f hf => ?_⟩
    obtain ⟨ba, bc, h1, h2, h3, h4⟩ := hc k f hf
    exact ⟨ba, bc, (hb.cell (p := ⟨b, o + k * 3, none⟩) (by show b < B'; omega)).trans h1, (hb.cell (p := ⟨b, o + k * 3 + 1, none⟩) (by show b < B'; omega)).trans h2,
      (hb.cell (p := ⟨b, o + k * 3 + 2, none⟩) (by show b < B'; omega)).trans h3, (h4.below hb hB)⟩⟩
theorem Frs.more {w : World} {B B' : Nat} {a : Option Addr} {len cap : Nat} {fs : List Fr} (h : Frs w B a len cap fs) (hB : B ≤ B') : Frs w B' a len cap fs := h.below (Below.refl _ _) hB
theorem Frs.nil_ {w : World} {B : Nat} : Frs w B none 0 0 [] := ⟨rfl, by omega, by simp [maxLen], fun h => absurd h (by omega)⟩
/-- A literal of one frame. -/
theorem Frs.one {w w1 : World} {g : Nat} {t : TypeId} {fr : Nat × Nat} {f : Fr} {ty seq : Int} {ba : Option Addr} {n bc : Nat} (h : w.heap[g]? = some (.cells #[.int .i64 ty, .int .i64 seq, .slice ba n bc] t fr)) (h1 : f.ty = ty) (h2 : f.seq = seq) (h3 : f.body.length = n)
    (hs : Sl w1 w1.heap.size ba n bc f.body) (hb : Below w1.heap.size w1 w) : Frs w w.heap.size (some ⟨g, 0, none⟩) 1 1 [f] :=
  ⟨rfl, Nat.le_refl _, by simp [maxLen], fun _ => ⟨g, 0, rfl, lt_of_heap h, fun k x hx => by
    match k, hx with
    | 0, hx =>
      simp at hx
      subst hx h1 h2 h3
      exact ⟨ba, bc, (cell_of_row w g 0 _ _ _ h).trans rfl, (cell_of_row w g 1 _ _ _ h).trans rfl, (cell_of_row w g 2 _ _ _ h).trans rfl, (hs.below hb (Nat.le_refl _)).more hb.size⟩⟩⟩
theorem Frs.take {w : World} {B : Nat} {a : Option Addr} {len cap : Nat} {fs : List Fr} (h : Frs w B a len cap fs) {k : Nat} (hk : k ≤ len) : Frs w B a k cap (fs.take k) :=
  ⟨by rw [List.length_take, h.length]; omega, by have := h.le; omega, h.max, fun hp => by
    obtain ⟨b, o, e, hlt, hc⟩ := h.at_ (by omega)
    refine ⟨b, o, e, hlt, fun j f hf => hc j f ?_⟩
    rw [List.getElem?_take] at hf
    split at hf
    · exact hf
    · cases hf⟩

/-- A frame with the address and the capacity of its body. -/
abbrev FC := Fr × Option Addr × Nat
def fcells (ts : List FC) : List Value := ts.flatMap fun t => [.int .i64 t.1.ty, .int .i64 t.1.seq, .slice t.2.1 t.1.body.length t.2.2]
theorem fcells_snoc (ts : List FC) (t : FC) : fcells (ts ++ [t]) = fcells ts ++ [.int .i64 t.1.ty, .int .i64 t.1.seq, .slice t.2.1 t.1.body.length t.2.2] := by simp [fcells]
theorem fcells_len (ts : List FC) : (fcells ts).length = ts.length * 3 := by
  induction ts with
  | nil => rfl
  | cons t ts ih =>
    show ([_, _, _] ++ fcells ts).length = _
    rw [List.length_append, ih]
    simp
    omega
theorem fcells_get : ∀ (ts : List FC) (k : Nat) (t : FC), ts[k]? = some t → (fcells ts)[k * 3]? = some (.int .i64 t.1.ty) ∧ (fcells ts)[k * 3 + 1]? = some (.int .i64 t.1.seq) ∧ (fcells ts)[k * 3 + 2]? = some (.slice t.2.1 t.1.body.length t.2.2) := by
  intro ts
  induction ts with
  | nil => intro k t h; simp at h
  | cons x ts ih =>
    intro k t h
    cases k with
    | zero =>
      simp at h
      subst h
      exact ⟨rfl, rfl, rfl⟩
    | succ k =>
      have := ih k t (by simpa using h)
      have e : ∀ j, (fcells (x :: ts))[j + 3]? = (fcells ts)[j]? := fun j => rfl
      rw [show (k + 1) * 3 = k * 3 + 3 from by omega, show k * 3 + 3 + 1 = k * 3 + 1 + 3 from by omega, show k * 3 + 3 + 2 = k * 3 + 2 + 3 from by omega, e, e, e]
      exact this
/-- v owns these frames. -/
structure OwnF (w : World) (base : Nat) (v : Value) (ts : List FC) : Prop where
  own : w.ownsRow base 36 3 v ts.length (fcells ts)
  bodies : ∀ t ∈ ts, Sl w w.heap.size t.2.1 t.1.body.length t.2.2 t.1.body ∧ (0 < t.1.body.length → ∀ b o, t.2.1 = some ⟨b, o, none⟩ → some b ≠ v.ownBlock)
theorem OwnF.nil_ (w : World) (base : Nat) : OwnF w base (.slice none 0 0) [] := ⟨World.ownsRow_nil w base _ 3, by simp⟩
theorem OwnF.below {w w' : World} {base : Nat} {v : Value} {ts : List FC} (h : OwnF w base v ts) (hb : Below w.heap.size w w') : OwnF w' base v ts :=
  ⟨World.ownsRow.kept h.own (grown_of_below hb none) (by cases hv : v.ownBlock <;> simp), fun t ht => ⟨((h.bodies t ht).1.below hb (Nat.le_refl _)).more hb.size, (h.bodies t ht).2⟩⟩
/-- What is owned reads as a row of frames. -/
theorem OwnF.frs {w : World} {base : Nat} {v : Value} {ts : List FC} (h : OwnF w base v ts) : ∃ a cap, v = .slice a ts.length cap ∧ Frs w w.heap.size a ts.length cap (ts.map (·.1)) := by
  rcases h.own.2 with ⟨rfl, h0⟩ | ⟨g, cap, cur, rfl, hb, hh, hn, hc, hsz, htk⟩
  · have : ts = [] := List.eq_nil_of_length_eq_zero h0
    subst this
    exact ⟨none, 0, rfl, Frs.nil_⟩
  · refine ⟨_, cap, rfl, ⟨by simp, hn, hc, fun _ => ⟨g, 0, rfl, lt_of_heap hh, fun k f hf => ?_⟩⟩⟩
    rw [List.getElem?_map] at hf
    obtain ⟨t, ht, rfl⟩ := Option.map_eq_some_iff.1 hf
    have hk := (List.getElem?_eq_some_iff.1 ht).1
    obtain ⟨h1, h2, h3⟩ := fcells_get ts k t ht
    refine ⟨t.2.1, t.2.2, ?_, ?_, ?_, (h.bodies t (List.mem_of_getElem? ht)).1⟩
    · rw [Nat.zero_add, World.ownsRow.cellAt h.own (k * 3) (by omega), h1]
    · rw [Nat.zero_add, World.ownsRow.cellAt h.own (k * 3 + 1) (by omega), h2]
    · rw [Nat.zero_add, World.ownsRow.cellAt h.own (k * 3 + 2) (by omega), h3]
theorem OwnF.at_base {w : World} {base : Nat} {v : Value} {ts : List FC} (h : OwnF w base v ts) {b : Nat} (hb : v.ownBlock = some b) : base ≤ b ∧ b < w.heap.size := by
  rcases h.own.2 with ⟨rfl, _⟩ | ⟨g, cap, cur, rfl, h2, h3, _⟩
  · cases hb
  · injection hb with hb
    subst hb
    exact ⟨h2, lt_of_heap h3⟩
theorem OwnF.mono {w : World} {base base' : Nat} {v : Value} {ts : List FC} (h : OwnF w base v ts) (hb : base' ≤ base) : OwnF w base' v ts := by
  refine ⟨⟨h.own.1, ?_⟩, h.bodies⟩
  rcases h.own.2 with h1 | ⟨g, cap, cur, rfl, h2, h3⟩
  · exact .inl h1
  · exact .inr ⟨g, cap, cur, rfl, Nat.le_trans hb h2, h3⟩
theorem info_frame : (Tryd.prog.info? 36).map (fun i => (i.zero, i.size, i.bytes)) = some (some (.agg #[.int .i64 0, .int .i64 0, .slice none 0 0]), 3, 40) := by kernel_rfl

/-- 'append(l, f)' of one frame. -/
theorem wpList_append_fr {w : World} {ops : Array Oper} {rest : List Oper} {o : Oper} {a : Act} {Q : Exit → Act → World → Prop} (hgd : o.guard = none) (s x : Operand)
    (ho : o.op = .call { callee := .builtin .append, args := #[s, x], argTypes := #[26, 26] })
    (base : Nat) (v : Value) (ts : List FC) (hs : a.eval s = v) (g : Nat) (t : FC) (hx : a.eval x = .slice (some ⟨g, 0, none⟩) 1 1)
    (hown : OwnF w base v ts) (hg : w.heap[g]? = some (.cells #[.int .i64 t.1.ty, .int .i64 t.1.seq, .slice t.2.1 t.1.body.length t.2.2] 36 (0, 0)))
    (hb : Sl w w.heap.size t.2.1 t.1.body.length t.2.2 t.1.body) (hbn : 0 < t.1.body.length → ∀ b o, t.2.1 = some ⟨b, o, none⟩ → some b ≠ v.ownBlock) (hn : ts.length ≤ 1000000) (hbase : base ≤ w.heap.size)
    (h : ∀ v' w', OwnF w' base v' (ts ++ [t]) → w.grownBy w' v.ownBlock → (v'.ownBlock = v.ownBlock ∨ v'.ownBlock = some w.heap.size) → wpList Tryd.prog ops Q rest (a.put o.dst v') w') :
    wpList Tryd.prog ops Q (o :: rest) a w := by
  obtain ⟨i, hi, hz0, hz1, hz2⟩ := info_parts info_frame
  refine wpList_append_own_at w hgd s x 26 ho base 36 i (.agg #[.int .i64 0, .int .i64 0, .slice none 0 0]) 3 40 Tryd.underlying26 hi hz0 hz1 hz2 rfl (by decide) v ts.length (fcells ts) hs hown.own ⟨g, 0, none⟩ 1 1 [.int .i64 t.1.ty, .int .i64 t.1.seq, .slice t.2.1 t.1.body.length t.2.2] hx rfl ?_ ?_ (by unfold maxLen; omega) (by omega) hbase ?_
  · intro j u hj
    have hj3 : j < 3 := (List.getElem?_eq_some_iff.1 hj).1
    rw [Addr.add_mid, Nat.zero_add, cell_of_row w g j _ _ _ hg, List.getElem?_toArray]
    exact hj
  · intro u hu
    simp at hu
    rcases hu with rfl | rfl | rfl <;> rfl
  · intro v' w' h1 h2 _ h4
    refine h v' w' ⟨by rw [List.length_append, fcells_snoc]; exact h1, ?_⟩ h2 h4
    have key : ∀ (x : FC), (Sl w w.heap.size x.2.1 x.1.body.length x.2.2 x.1.body ∧ (0 < x.1.body.length → ∀ b o, x.2.1 = some ⟨b, o, none⟩ → some b ≠ v.ownBlock)) →
        Sl w' w'.heap.size x.2.1 x.1.body.length x.2.2 x.1.body ∧ (0 < x.1.body.length → ∀ b o, x.2.1 = some ⟨b, o, none⟩ → some b ≠ v'.ownBlock) := by
      rintro x ⟨hx, hne⟩
      refine ⟨(hx.kept h2 hne).more h2.size, fun hp b o e => ?_⟩
      rcases h4 with h4 | h4
      · rw [h4]; exact hne hp b o e
      · rw [h4]
        obtain ⟨b', o', e', hlt, _⟩ := hx.at_ hp
        rw [e] at e'
        injection e' with e'
        injection e' with e'
        intro hx
        injection hx with hx
        omega
    intro x hx
    rcases List.mem_append.1 hx with hx | hx
    · exact key x (hown.bodies x hx)
    · simp at hx
      subst hx
      exact key x ⟨hb, hbn⟩

theorem run_strs {w : World} {B : Nat} {a : Option Addr} {len cap : Nat} {bs : List Nat} (h : Sl w B a len cap bs) : ∀ n, (convert 22 9 (.slice a len cap)).run Tryd.prog (w.drewN n) = .ok (.string (strOf bs)) (w.drewN n) :=
  fun n => run_str (w := w.drewN n) (B := B) (show Sl (w.drewN n) B a len cap bs from ⟨h.length, h.le, h.max, h.byte, h.none_, h.at_⟩) 22 5 9 Tryd.underlying22 Tryd.underlying5 Tryd.underlying9

theorem below_drewN {B : Nat} {a w : World} {n : Nat} (h : Below B a w) : Below B a (w.drewN n) := ⟨h.os, h.tape, h.output, h.size, h.block⟩
theorem ne_toList {a b : ByteArray} (h : a ≠ b) : (a.toList == b.toList) = false := by
  rw [beq_eq_false_iff_ne]
  intro e
  rw [ByteArray.toList_eq, ByteArray.toList_eq] at e
  exact h (ByteArray.ext (Array.toList_inj.1 e))
set_option maxHeartbeats 1600000 in
theorem same_any (a : Option Addr) (la ca : Nat) (fs : List Fr) (b : Option Addr) (lb cb : Nat) (gs : List Fr) (w : World) (ha : Frs w w.heap.size a la ca fs) (hb : Frs w w.heap.size b lb cb gs) :
    Calls Tryd.prog 13 #[.slice a la ca, .slice b lb cb] w fun e w' => e = .returned (.bool (decide (fs = gs))) ∧ Below w.heap.size w w' := by
  have hla := ha.length
  have hlb := hb.length
  have hma := ha.le
  have hmx := ha.max
  unfold maxLen at hmx
  by_cases hl : la = lb
  · subst hl
    have hl' : ((la : Int) != (la : Int)) = false := by simp
    go_enter Tryd.func13, Tryd.ntmps13
    go_wp2_with fail
    go_loopw [5] (fun i wx => ∃ k : Nat, k ≤ la ∧ i = .int .i64 (k : Int) ∧ fs.take k = gs.take k ∧ Below w.heap.size w wx) (fun i _ => la - (intOf i).toNat)
    case atStart => exact ⟨0, by omega, rfl, by simp, Below.refl _ _⟩
    case round =>
      obtain ⟨k, hk, rfl, hpre, hB⟩ := hrel
      by_cases hlt : k < la
      · have hf : fs[k]? = some fs[k] := List.getElem?_eq_getElem (by omega)
        have hg : gs[k]? = some gs[k] := List.getElem?_eq_getElem (by omega)
        obtain ⟨b1, o1, rfl, hb1, hc1⟩ := (ha.below hB (Nat.le_refl _)).at_ (by omega)
        obtain ⟨b2, o2, rfl, hb2, hc2⟩ := (hb.below hB (Nat.le_refl _)).at_ (by omega)
        obtain ⟨ba1, bc1, x0, x1, x2, s1⟩ := hc1 k _ hf
        obtain ⟨ba2, bc2, y0, y1, y2, s2⟩ := hc2 k _ hg
        have e1 := run_strs s1
        have e2 := run_strs s2
        have p1 := s1.byte
        have p2 := s2.byte
        obtain ⟨f, hff⟩ : ∃ f, f = fs[k] := ⟨_, rfl⟩
        obtain ⟨g, hgg⟩ : ∃ g, g = gs[k] := ⟨_, rfl⟩
        rw [← hff] at hf x0 x1 x2 e1 p1
        rw [← hgg] at hg y0 y1 y2 e2 p2
        have i0 : (0 : Int) ≤ (k : Int) := by omega
        have i1 : (k : Int) < (la : Int) := by omega
        have H := Lib.hid (And.intro hf (And.intro hg (And.intro hpre hB)))
        clear hc1 hc2 s1 s2 hff hgg hf hg hpre hB
        obtain ⟨ft, hft⟩ : ∃ t, t = f.ty := ⟨_, rfl⟩
        obtain ⟨gt, hgt⟩ : ∃ t, t = g.ty := ⟨_, rfl⟩
        obtain ⟨fq, hfq⟩ : ∃ t, t = f.seq := ⟨_, rfl⟩
        obtain ⟨gq, hgq⟩ : ∃ t, t = g.seq := ⟨_, rfl⟩
        rw [← hft] at x0
        rw [← hgt] at y0
        rw [← hfq] at x1
        rw [← hgq] at y1
        have hstr := strOf_eq p1 p2
        obtain ⟨fs', hfs'⟩ : ∃ t, t = strOf f.body := ⟨_, rfl⟩
        obtain ⟨gs', hgs'⟩ : ∃ t, t = strOf g.body := ⟨_, rfl⟩
        rw [← hfs'] at e1 hstr
        rw [← hgs'] at e2 hstr
        have HE : Hid ((ft = gt ∧ fq = gq ∧ fs' = gs') ↔ f = g) := by
          rw [hft, hgt, hfq, hgq, hstr]
          constructor
          · rintro ⟨h1, h2, h3⟩
            cases f; cases g; simp_all
          · rintro rfl; exact ⟨rfl, rfl, rfl⟩
        generalize f.body.length = lf at x2 e1
        generalize g.body.length = lg at y2 e2
        clear hft hgt hfq hgq hfs' hgs' hstr p1 p2
        have hno : Hid (¬ (ft = gt ∧ fq = gq ∧ fs' = gs') → decide (fs = gs) = false) := by
          intro hn
          refine decide_eq_false fun h => hn (HE.out.2 ?_)
          subst h
          have := H.out.1.symm.trans H.out.2.1
          injection this
        have hye : Hid ((ft = gt ∧ fq = gq ∧ fs' = gs') → fs.take (k + 1) = gs.take (k + 1)) := by
          intro h
          have h2 := HE.out.1 h
          rw [List.take_add_one, List.take_add_one, H.out.1, H.out.2.1, H.out.2.2.1, h2]
        by_cases q1 : ft = gt
        · by_cases q2 : fq = gq
          · by_cases q3 : fs' = gs'
            · have Hy := Lib.hid (hye.out ⟨q1, q2, q3⟩)
              subst q1 q2 q3
              have r1 : (ft != ft) = false := by simp
              have r2 : (fq != fq) = false := by simp
              go_wp2_with fail
              go_quiet (fail)
              go_wp2_with fail
              go_roundw
              case rel => exact ⟨k + 1, by omega, by go_num, Hy.out, below_drewN H.out.2.2.2⟩
              case measure => simp [intOf]; omega
            · have Hn := Lib.hid (hno.out (fun h => q3 h.2.2))
              subst q1 q2
              have r1 : (ft != ft) = false := by simp
              have r2 : (fq != fq) = false := by simp
              have r3 := ne_toList q3
              go_wp2_with fail
              go_quiet (fail)
              go_wp2
              go_ret
              exact ⟨ret_bool Hn.out.symm, below_drewN H.out.2.2.2⟩
          · have Hn := Lib.hid (hno.out (fun h => q2 h.2.1))
            subst q1
            have r1 : (ft != ft) = false := by simp
            have r2 : (fq != gq) = true := by simp; exact q2
            go_wp2_with fail
            go_quiet (fail)
            go_wp2
            go_ret
            exact ⟨ret_bool Hn.out.symm, below_drewN H.out.2.2.2⟩
        · have Hn := Lib.hid (hno.out (fun h => q1 h.1))
          have r1 : (ft != gt) = true := by simp; exact q1
          go_wp2_with fail
          go_quiet (fail)
          go_wp2
          go_ret
          exact ⟨ret_bool Hn.out.symm, below_drewN H.out.2.2.2⟩
      · have hkl : k = la := by omega
        subst hkl
        have he : fs = gs := by
          rw [List.take_of_length_le (by omega), List.take_of_length_le (by omega)] at hpre
          exact hpre
        have Ht := Lib.hid (decide_eq_true he)
        clear hpre he
        go_wp2
        go_ret
        exact ⟨ret_bool Ht.out.symm, hB⟩
  · have hne : fs ≠ gs := fun h => by subst h; omega
    have hn := decide_eq_false hne
    rw [hn]
    have hl' : ((la : Int) != (lb : Int)) = true := by simp; omega
    clear hn hne
    go_enter Tryd.func13, Tryd.ntmps13
    go_wp2
    go_ret
    exact ⟨rfl, Below.refl _ _⟩
end Go.Proofs.YtiiellclnmakpaaDoor
