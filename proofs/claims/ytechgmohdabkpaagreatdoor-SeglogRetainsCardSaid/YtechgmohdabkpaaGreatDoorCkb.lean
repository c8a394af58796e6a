/- A byte takes one cell. Contracts of the program's disk: Fuse, Fail, Synced, Used, Read. Contracts of the program's disk: fits, Write. Contracts of the program's disk: Write. Contracts of the program's disk: Write, Rename. Contracts of the program's disk: Rename, List. -/
import Derived.Test.YtechgmohdabkpaaGreatDoorCka
import Derived.Test.YtechgmohdabkpaaGreatDoorProg
import Derived.Test.YtechgmohdabkpaaGreatDoorChecked
import Derived.Sort.OwnSorted
import Derived.Lib.SliceRun
namespace Go.Proofs.YtechgmohdabkpaaGreatDoor
section
set_option linter.unusedSimpArgs false
set_option linter.unusedVariables false
open Go.RowKit
theorem info_u8 : (Tryz.prog.info? 5).map (fun i => (i.zero, i.size, i.bytes)) = some (some (.int .u8 0), 1, 1) := by kernel_rfl
end
section
set_option linter.unusedVariables false
set_option linter.unusedSimpArgs false
section
open Go.RowKit
open Go.Maps
attribute [local go_sem] Oper.semAt_some

theorem max2_any (x y : Int) (w : World) :
    (Builtin.max_ #[3, 3] 3 #[.int .i64 x, .int .i64 y]).run Tryz.prog w = .ok (.int .i64 (max x y)) w := by
  have e1 : (if x < y then y else x) = max x y := by omega
  simp only [Builtin.max_, List.foldlM, Builtin.max2, Sem.run_bind, Sem.run_pure, Result.andThen_ok]
  rw [e1]
theorem min2i_any (x y : Int) (w : World) :
    (Builtin.min_ #[3, 3] 3 #[.int .i64 x, .int .i64 y]).run Tryz.prog w = .ok (.int .i64 (min x y)) w := by
  have e1 : (if y < x then y else x) = min x y := by omega
  simp only [Builtin.min_, List.foldlM, Builtin.min2, Sem.run_bind, Sem.run_pure, Result.andThen_ok]
  rw [e1]
def St.fuse_ (t : St) (n : Int) : St := { t with fuse := max n (-1) }
def St.fail_ (t : St) (n : Int) : St := { t with fails := max n 0 }
/-- A call without an answer. -/
def Turns (w : World) (dp : Nat) (O : Nat → Prop) (t : St) (e : Ending) (w' : World) : Prop := e = .returned (.tuple #[]) ∧ IsD w' dp t O ∧ But O w w'

set_option maxRecDepth 100000 in
theorem fuse_any {w : World} {dp : Nat} {t : St} {O : Nat → Prop} (h : IsD w dp t O) (n : Int) (hn : n ≤ 9223372036854775807) :
    Calls Tryz.prog 42 #[.pointer (some ⟨dp, 0, none⟩), .int .i64 n] w (Turns w dp O (t.fuse_ n)) := by
  obtain ⟨mb, C, h⟩ := h
  have c2 := h.cell.2.2.1
  have z2 := h.cell.2.2.2.2 2
  have hm := fun (x : World) => max2_any n (-1) x
  have h2 : DskC (w.setCell ⟨dp, 2, none⟩ (.int .i64 (max n (-1)))) dp mb C t.D t.room (max n (-1)) t.fails O := h.set_ 2 _ rfl (by omega) h.fails_
  have H := Lib.hid (And.intro h2 ((But.refl O w).setCell (p := ⟨dp, 2, none⟩) (.inl h.dpO) (.int .i64 (max n (-1)))))
  have HF : Hid (t.fuse_ n = ⟨t.D, t.room, max n (-1), t.fails⟩) := rfl
  clear h h2 hn
  generalize max n (-1) = m at *
  go_enter Tryz.func42, Tryz.ntmps42
  go_wp2
  go_end0
  exact ⟨rfl, by rw [HF.out]; exact ⟨mb, C, H.out.1⟩, H.out.2⟩
set_option maxRecDepth 100000 in
theorem fail_any {w : World} {dp : Nat} {t : St} {O : Nat → Prop} (h : IsD w dp t O) (n : Int) (hn : n ≤ 9223372036854775807) :
    Calls Tryz.prog 43 #[.pointer (some ⟨dp, 0, none⟩), .int .i64 n] w (Turns w dp O (t.fail_ n)) := by
  obtain ⟨mb, C, h⟩ := h
  have c2 := h.cell.2.2.2.1
  have z2 := h.cell.2.2.2.2 3
  have hm := fun (x : World) => max2_any n 0 x
  have h2 : DskC (w.setCell ⟨dp, 3, none⟩ (.int .i64 (max n 0))) dp mb C t.D t.room t.fuse (max n 0) O := h.set_ 3 _ rfl h.fuse_ (by omega)
  have H := Lib.hid (And.intro h2 ((But.refl O w).setCell (p := ⟨dp, 3, none⟩) (.inl h.dpO) (.int .i64 (max n 0))))
  have HF : Hid (t.fail_ n = ⟨t.D, t.room, t.fuse, max n 0⟩) := rfl
  clear h h2 hn
  generalize max n 0 = m at *
  go_enter Tryz.func43, Tryz.ntmps43
  go_wp2
  go_end0
  exact ⟨rfl, by rw [HF.out]; exact ⟨mb, C, H.out.1⟩, H.out.2⟩

/-- All bytes of the files that are left. -/
def sumL (left : Lit → Bool) : FS → Nat
  | .map es => (es.map fun p => if left p.1 = true then lenOf p.2 else 0).sum
  | _ => 0
theorem sumL_all {D : FS} (hD : Canon D) : sumL (has D) D = tot D := by
  obtain ⟨es, rfl, _, hk⟩ := hD
  show (es.map fun p => if has (.map es) p.1 = true then lenOf p.2 else 0).sum = (es.map fun p => lenOf p.2).sum
  congr 1
  apply List.map_congr_left
  intro p hp
  rw [if_pos (show has (.map es) p.1 = true from List.any_eq_true.2 ⟨p, hp, WideAt.sameKey_self (hk p hp)⟩)]
theorem sumL_none {D : FS} {left : Lit → Bool} (h : ∀ k, left k = false) : sumL left D = 0 := by
  cases D <;> try rfl
  rename_i es
  show (es.map fun p => if left p.1 = true then lenOf p.2 else 0).sum = 0
  induction es with
  | nil => rfl
  | cons x r ih => rw [List.map_cons, List.sum_cons, ih, h x.1]; rfl
theorem sumL_step {D : FS} (hD : Canon D) {left : Lit → Bool} {kl : Lit} {d : DataW Fl} (hl : look D kl = some d) (hlk : left kl = true) : sumL (fun z => left z && !z.sameKey kl) D + lenOf d = sumL left D := by
  obtain ⟨es, rfl, h1, hk⟩ := hD
  have hp := apart_of_rising h1
  clear h1
  show (es.map fun p => if (left p.1 && !p.1.sameKey kl) = true then lenOf p.2 else 0).sum + lenOf d = (es.map fun p => if left p.1 = true then lenOf p.2 else 0).sum
  change (es.find? fun p => p.1.sameKey kl).map (·.2) = some d at hl
  induction es with
  | nil => cases hl
  | cons x r ih =>
    obtain ⟨a1, a2⟩ := List.pairwise_cons.1 hp
    cases hx : x.1.sameKey kl
    · rw [List.find?_cons_of_neg (by rw [hx]; decide)] at hl
      have := ih (fun p hp => hk p (by simp [hp])) a2 hl
      simp only [List.map_cons, List.sum_cons, hx, Bool.not_false, Bool.and_true]
      omega
    · rw [List.find?_cons_of_pos (by rw [hx])] at hl
      have hd : x.2 = d := by injection hl
      have hxk : x.1 = kl := WideAt.sameKey_eq hx
      have hrest : (r.map fun p => if (left p.1 && !p.1.sameKey kl) = true then lenOf p.2 else 0) = r.map fun p => if left p.1 = true then lenOf p.2 else 0 := by
        apply List.map_congr_left
        intro p hp'
        have : p.1.sameKey kl = false := by
          cases hs : p.1.sameKey kl
          · rfl
          · exact absurd (hxk.trans (WideAt.sameKey_eq hs).symm) (a1 p hp')
        rw [this]; simp
      simp only [List.map_cons, List.sum_cons, hx, Bool.not_true, Bool.and_false, hrest, hd]
      rw [hxk, hlk]
      simp
      omega
section
variable {w : World} {dp mb room : Nat} {C : DataW Fe} {D : FS} {fuse fails : Int} {O : Nat → Prop}
theorem Files.at_key (h : Files w mb dp C D O) {kl : Lit} {f : Fe} (hat : ∀ zd, C.atKey kl zd = .held f) : look C kl = some (.held f) ∧ ∃ g, look D kl = some (.held g) ∧ f.l = (g.l : Int) ∧ f.n = g.bs.length := by
  have h1 : look C kl = some (.held f) := by
    have hh := has_true_of_atKey hat
    rw [has_look] at hh
    obtain ⟨d, hd⟩ := Option.isSome_iff_exists.1 hh
    have := hat .nil
    rw [atKey_look, hd] at this
    rw [hd, ← this]
    rfl
  refine ⟨h1, ?_⟩
  have h2 := h.at_ kl
  rw [h1] at h2
  match hd : look D kl with
  | some (.held g) => rw [hd] at h2; exact ⟨g, rfl, h2.1, own_len h2.2⟩
  | none | some (.lit _) | some .nil | some (.ptr _) | some (.slice _ _) | some (.agg _) | some (.iface _ _) | some (.map _) => rw [hd] at h2; exact h2.elim

set_option maxRecDepth 100000 in
set_option maxHeartbeats 1600000 in
theorem used_any (h : DskC w dp mb C D room fuse fails O) : Calls Tryz.prog 171 #[.pointer (some ⟨dp, 0, none⟩)] w fun e w' => e = .returned (.int .i64 ((tot D : Nat) : Int)) ∧ Below w.heap.size w w' := by
  have c0 := h.cell.1
  have htot : tot D ≤ 1048576 := by have h1 := h.good.tot_; have h2 := h.good.room_; omega
  have HA := Lib.hid (fun (kl : Lit) (f : Fe) hat => h.files.at_key (kl := kl) (f := f) hat)
  have HS := Lib.hid (h.good.canon)
  have hmb := h.lt mb h.files.inO
  have hhas : has C = has D := funext h.files.has_
  have hown := h.files.owns
  have S0 := sumL_all h.good.canon
  rw [← hhas] at S0
  have HS0 := Lib.hid S0
  clear h hhas S0
  go_enter Tryz.func171, Tryz.ntmps171
  go_wp2_with (first
    | (at_range; refine wpList_range_own _ rfl _ 72 rfl 9 111 law9 Tryz.underlying72 rdF mb (size C) C rfl hown ?_; intro w0 hrg0 hg0 hs0)
    | fail)
  go_frame
  go_loopw [3] (fun u wr => ∃ (left : Lit → Bool) (cnt a : Nat), wr.ranges Tryz.prog 9 rdF mb w.heap.size (size C) C left cnt ∧ a + sumL left D = tot D ∧ u = .int .i64 ((a : Nat) : Int) ∧ Below w.heap.size w wr ∧ w.heap.size < wr.heap.size)
    (fun _ wr => wr.rangeLeft mb w.heap.size)
  case atStart => exact ⟨_, _, 0, hrg0, by rw [HS0.out]; omega, rfl, (Below.refl _ _).grown hg0 (Nat.le_refl _) (fun j hj => by cases hj), by omega⟩
  case round =>
    obtain ⟨left, cnt, a, hrg, hsum, rfl, hnx, hzz⟩ := hrel
    go_wp2_with (first
      | (at_next; refine wpList_next_ranges _ rfl _ rfl 9 law9 rdF Value.string (fun f : Fe => .agg #[.slice f.a f.n f.c, .int .i64 f.l]) (fun key kl hk => by obtain ⟨x, hx, _⟩ := Maps.keyOf_str Tryz.underlying9 hk; exact ⟨_, hx⟩) (fun v y hv => by obtain ⟨f, rfl, _⟩ := rdF_inv hv; exact ⟨f, rfl⟩) mb w.heap.size (size C) C left cnt rfl hrg ?_ ?_)
      | fail)
    · intro hc0 hl0
      have e0 := sumL_none (D := D) hl0
      have ha : a = tot D := by omega
      subst ha
      have HX := Lib.hid hnx
      clear hnx hrg hsum e0 hc0 hl0
      go_wp2
      go_ret
      exact ⟨rfl, HX.out⟩
    · intro x f kl yd yp w1 cnt1 hkey hlk hv hat hrg1 hlt hg1 hs1 hen
      have hy : (DataW.held f, []) = (yd, yp) := Option.some.inj ((rdF_val f).symm.trans hv)
      obtain ⟨rfl, rfl⟩ := Prod.mk.inj hy
      clear hy
      obtain ⟨_, g, hgD, _, hn⟩ := HA.out kl f hat
      have hst := sumL_step HS.out hgD hlk
      simp only [lenOf, ← hn] at hst
      have hb1 : Below w.heap.size w w1 := hnx.grown hg1 (by omega) (fun j hj => by injection hj with hj; omega)
      have HR := Lib.hid (And.intro hrg1 (And.intro hb1 (And.intro hlt (And.intro hs1 hrg))))
      have hfn : a + f.n ≤ 1048576 := by omega
      have hz1 : w.heap.size < w1.heap.size := by omega
      have hw : IntKind.i64.wrap ((a : Int) + (f.n : Int)) = ((a + f.n : Nat) : Int) := by rw [IntKind.wrap_i64]; omega
      have HT := Lib.hid (show (a + f.n) + sumL (fun z => left z && !z.sameKey kl) D = tot D by omega)
      clear hrg1 hb1 hlt hs1 hg1 hst hgD hn hv hat hkey hlk hnx hrg hsum
      go_wp2
      go_roundw
      case rel => exact ⟨_, cnt1, a + f.n, HR.out.1.alloc _, HT.out, rfl, HR.out.2.1.alloc (by omega) _, by simp; omega⟩
      case measure => rw [(HR.out.1.alloc _).left_eq, HR.out.2.2.2.2.left_eq]; exact HR.out.2.2.1

set_option maxRecDepth 100000 in
theorem synced_any (h : DskC w dp mb C D room fuse fails O) (s : ByteArray) (hs : s.size ≤ maxLen) : Calls Tryz.prog 53 #[.pointer (some ⟨dp, 0, none⟩), .string s] w
    fun e w' => e = .returned (.int .i64 (((fat D s.data.toList).getD Fl.zero).l : Int)) ∧ w = w' := by
  have c0 := h.cell.1
  have L := (h.files.run_look hs w rfl).1
  have hl : Hid ((cat C (.string s.data.toList)).l = (((fat D s.data.toList).getD Fl.zero).l : Int)) := by
    show _ = _
    cases hf : fat D s.data.toList with
    | none => rw [(h.files.cat_none h.good _ hf).2]; rfl
    | some f => exact (h.files.cat_ _ f hf).2.1
  unfold Fe.val at L
  generalize cat C (.string s.data.toList) = f at *
  have F1 : ∀ (u : Value) (x : World), (Instr.field 111 (.agg #[u, .int .i64 f.l]) 1).run Tryz.prog x = .ok (.int .i64 f.l) x := fun u x => by kernel_rfl
  clear h hs
  go_enter Tryz.func53, Tryz.ntmps53
  go_wp2
  go_ret
  exact ⟨ret_i64 hl.out, rfl⟩
end
/-- Bytes that a call has made anew. -/
def NewBytes (w : World) (bs : List Nat) (is : Bool) (e : Ending) (w' : World) : Prop :=
  ∃ a c, e = .returned (.tuple #[.slice a bs.length c, .bool is]) ∧ OwnB w' w.heap.size 5 (.slice a bs.length c) bs ∧ Below w.heap.size w w'
theorem eql_nil (w : World) (a : Option Addr) (n c n' c' : Nat) : (binOp .eql 38 (.slice a n c) (.slice none n' c')).run Tryz.prog w = .ok (.bool a.isNone) w := Lib.run_eql_slice_nil w _ _ a n c n' c' Tryz.underlying38
set_option maxRecDepth 100000 in
theorem cloneB_any (a : Option Addr) (n c : Nat) (bs : List Nat) (w : World) (hs : Sl w w.heap.size a n c bs) (hn : n ≤ 140737488355328) :
    Calls Tryz.prog 100 #[.slice a n c] w fun e w' => ∃ a' c', e = .returned (.slice a' bs.length c') ∧ OwnB w' w.heap.size 5 (.slice a' bs.length c') bs ∧ Below w.heap.size w w' := by
  cases a with
  | none =>
    have hc0 := hs.none_ rfl
    have hn0 : n = 0 := by have := hs.le; omega
    subst hc0 hn0
    have hbs : bs = [] := List.eq_nil_of_length_eq_zero hs.length
    subst hbs
    clear hs hn
    have q := eql_nil w none 0 0 0 0
    go_enter Tryz.func100, Tryz.ntmps100
    go_wp2
    go_ret
    exact ⟨none, 0, rfl, OwnB.nil_ _ _ _, Below.refl _ _⟩
  | some ad =>
    have ho : OwnB (w.alloc (.cells #[] 5)) w.heap.size 5 (.slice (some ⟨w.heap.size, 0, none⟩) 0 0) [] := OwnB.lit (w := w) (base := w.heap.size) 5 [] (Nat.le_refl _) (by decide)
    have h2 := hs.below ((Below.refl w.heap.size w).alloc (Nat.le_refl _) (.cells #[] 5)) (Nat.le_refl _)
    have HO := Lib.hid (And.intro ho h2)
    clear hs ho h2
    have q := eql_nil w (some ad) n c 0 0
    go_enter Tryz.func100, Tryz.ntmps100
    go_wp2_with (at_builtin; refine wpList_append_sl rfl (.tmp 5) (.tmp 6) _ rfl w.heap.size _ Tryz.underlying38 info_u8 _ [] rfl HO.out.1 _ (some ad) n c bs rfl HO.out.2 (by simp; omega) (by simp) ?_; intro v1 w1 ho1 hg1 hat1)
    rw [List.nil_append] at ho1
    have HB := Lib.hid (((Below.refl w.heap.size w).alloc (Nat.le_refl _) (.cells #[] 5)).grown hg1 (by simp) (fun k hk => by cases hk; exact Nat.le_refl _))
    rcases ho1.2 with ⟨hv, h0⟩ | ⟨g, cap, cur, hv, _⟩
    · have hbs : bs = [] := List.eq_nil_of_length_eq_zero h0
      subst hbs hv
      have H1 := Lib.hid ho1
      clear hg1 hat1 ho1
      go_ret
      exact ⟨none, 0, rfl, H1.out, HB.out⟩
    · subst hv
      have H1 := Lib.hid ho1
      clear hg1 hat1 ho1
      go_ret
      exact ⟨_, _, rfl, H1.out, HB.out⟩
set_option maxRecDepth 100000 in
theorem read_any {w : World} {dp : Nat} {t : St} {O : Nat → Prop} (h : IsD w dp t O) (s : ByteArray) (hs : s.size ≤ maxLen) : Calls Tryz.prog 51 #[.pointer (some ⟨dp, 0, none⟩), .string s] w
    (NewBytes w ((fat t.D s.data.toList).getD Fl.zero).bs (fat t.D s.data.toList).isSome) := by
  obtain ⟨mb, C, h⟩ := h
  have c0 := h.cell.1
  have L := (h.files.run_look hs w rfl).2
  rw [h.files.has_, h.good.has_] at L
  have hr : ((fat t.D s.data.toList).getD Fl.zero).bs.length ≤ 1048576 := by
    cases hf : fat t.D s.data.toList with
    | none => simp [Fl.zero]
    | some f => exact h.room_ hf
  have hsl : Sl w w.heap.size (cat C (.string s.data.toList)).a (cat C (.string s.data.toList)).n (cat C (.string s.data.toList)).c ((fat t.D s.data.toList).getD Fl.zero).bs := by
    cases hf : fat t.D s.data.toList with
    | none => rw [(h.files.cat_none h.good _ hf).2]; exact Sl.nil_
    | some f =>
      obtain ⟨_, _, ho⟩ := h.files.cat_ _ f hf
      obtain ⟨a, c, e, hsl⟩ := ho.sl (h.good.at_ hf).2.2.1
      unfold Fe.sl at e
      injection e with e1 e2 e3
      rw [e1, e2, e3]
      exact hsl
  unfold Fe.val at L
  generalize cat C (.string s.data.toList) = f at *
  generalize ((fat t.D s.data.toList).getD Fl.zero).bs = bs at *
  generalize (fat t.D s.data.toList).isSome = is at *
  have hb : Below w.heap.size w (w.alloc (.cells #[.slice f.a f.n f.c, .int .i64 f.l] 111)) := (Below.refl _ _).alloc (Nat.le_refl _) _
  have hn := hsl.length
  have CL := Lib.hid (cloneB_any f.a f.n f.c bs _ ((hsl.below hb (Nat.le_refl _)).more (by simp)) (by omega))
  have HB := Lib.hid hb
  clear h hs hsl hb hn
  go_enter Tryz.func51, Tryz.ntmps51
  go_wp2_with fail
  refine CL.out.mono ?_
  rintro e w' ⟨a', c', rfl, ho, hb2⟩
  have H2 := Lib.hid (And.intro (ho.mono (base' := w.heap.size) (by simp)) (HB.out.trans (hb2.mono (by simp))))
  clear ho hb2 CL
  go_wp2
  go_ret2
  exact ⟨a', c', rfl, H2.out⟩
end
section
open Go.RowKit
open Go.Maps
attribute [local go_sem] Oper.semAt_some

/-- Does it fit? -/
def fitsB (D : FS) (room : Nat) (s : List UInt8) (m : Nat) : Bool := ((fat D s).isSome || decide (size D < 64)) && decide (tot D + m ≤ room)
section
variable {w : World} {dp mb room : Nat} {C : DataW Fe} {D : FS} {fuse fails : Int} {O : Nat → Prop}
theorem used_from (h : DskC w dp mb C D room fuse fails O) (x : World) (hb : Below w.heap.size w x) : Calls Tryz.prog 171 #[.pointer (some ⟨dp, 0, none⟩)] x fun e w' => e = .returned (.int .i64 ((tot D : Nat) : Int)) ∧ Below w.heap.size w w' :=
  (used_any (h.below hb)).mono fun _ _ ⟨he, h2⟩ => ⟨he, hb.trans (h2.mono hb.size)⟩
def Fits (w : World) (b : Bool) (e : Ending) (w' : World) : Prop := e = .returned (.bool b) ∧ Below w.heap.size w w'
set_option linter.unusedSimpArgs false in
set_option maxRecDepth 100000 in
set_option maxHeartbeats 3200000 in
theorem fits_any (h : DskC w dp mb C D room fuse fails O) (s : ByteArray) (hs : s.size ≤ maxLen) (m : Nat) (hm : m ≤ 140737488355328) : Calls Tryz.prog 117 #[.pointer (some ⟨dp, 0, none⟩), .string s, .int .i64 (m : Int)] w (Fits w (fitsB D room s.data.toList m)) := by
  have L := (h.files.run_look hs w rfl).2
  rw [h.files.has_, h.good.has_] at L
  have c0 := h.cell.1
  have htot : tot D ≤ 1048576 := by have h1 := h.good.tot_; have h2 := h.good.room_; omega
  have hw : IntKind.i64.wrap (((tot D : Nat) : Int) + (m : Int)) = ((tot D : Nat) : Int) + (m : Int) := by rw [IntKind.wrap_i64]; omega
  have SS := Lib.hid (fun (x : World) (hb : Below w.heap.size w x) => (And.intro ((hb.cell (p := ⟨dp, 0, none⟩) (h.lt dp h.dpO)).trans h.cell.1) (And.intro ((hb.cell (p := ⟨dp, 1, none⟩) (h.lt dp h.dpO)).trans h.cell.2.1) (And.intro (h.files.run_len x (hb.block mb (h.lt mb h.files.inO)) h.good.canon) hb))))
  have US := Lib.hid (fun (x : World) (hb : Below w.heap.size w x) => used_from h x hb)
  have Hr : Hid (fitsB D room s.data.toList m = (((fat D s.data.toList).isSome || decide (size D < 64)) && decide (tot D + m ≤ room))) := rfl
  unfold Fe.val at L
  generalize cat C (.string s.data.toList) = f at *
  generalize tot D = T at *
  generalize size D = Z at *
  generalize (fat D s.data.toList).isSome = is at *
  generalize fitsB D room s.data.toList m = R at *
  clear h hs
  have hB : Below w.heap.size w (w.alloc (.cells #[.slice f.a f.n f.c, .int .i64 f.l] 111)) := (Below.refl _ _).alloc (Nat.le_refl _) _
  have S0 := SS.out _ (Below.drew hB)
  have HM := Lib.hid hm
  cases is
  · by_cases hz : Z < 64
    · have d1 : decide ((Z : Int) < 64) = true := by simp; omega
      have d2 : Hid (decide (Z < 64) = true) := by show _ = _; simp; omega
      clear hz
      go_enter Tryz.func117, Tryz.ntmps117
      go_wp2_with fail
      refine wp_region_held_drew (S := fun x => x.cell? ⟨dp, 0, none⟩ = some (.map (some mb)) ∧ x.cell? ⟨dp, 1, none⟩ = some (.int .i64 (room : Int)) ∧ (∀ ty, (Builtin.len_ #[72] ty #[.map (some mb)]).run Tryz.prog x = .ok (.int .i64 (Z : Nat)) x) ∧ Below w.heap.size w x) (by kernel_rfl) S0 (fun hHeld => ?_)
      refine wpAnyH_take (i := 0) (v := ?_) rfl (by kernel_rfl) (by kernel_rfl) (by kernel_rfl) (fun _ _ _ h => h) (Or.inl ⟨by rfl, ?_⟩) (by assumption) ?_
      rotate_left
      · intro w hSw
        (try dsimp only at hSw)
        go_simp
        all_goals with_reducible rfl
      try simp only [Act.put, List.getElem_toArray, List.getElem_cons_succ, List.getElem_cons_zero, List.setIfInBounds_toArray, List.set_cons_zero, List.set_cons_succ]
      refine wpAnyH_take (i := 1) (v := ?_) rfl (by kernel_rfl) (by kernel_rfl) (by kernel_rfl) (fun _ _ _ h => h) (Or.inl ⟨by rfl, ?_⟩) (by assumption) ?_
      rotate_left
      · intro w hSw
        (try dsimp only at hSw)
        go_simp
        all_goals with_reducible rfl
      try simp only [Act.put, List.getElem_toArray, List.getElem_cons_succ, List.getElem_cons_zero, List.setIfInBounds_toArray, List.set_cons_zero, List.set_cons_succ]
      refine wpAnyH_take (i := 2) (v := ?_) rfl (by kernel_rfl) (by kernel_rfl) (by kernel_rfl) (fun _ _ _ h => h) (Or.inl ⟨by rfl, ?_⟩) (by assumption) ?_
      rotate_left
      · intro w hSw
        (try dsimp only at hSw)
        go_simp
        all_goals with_reducible rfl
      try simp only [Act.put, List.getElem_toArray, List.getElem_cons_succ, List.getElem_cons_zero, List.setIfInBounds_toArray, List.set_cons_zero, List.set_cons_succ]
      refine wpAnyH_take (i := 3) (v := ?_) rfl (by kernel_rfl) (by kernel_rfl) (by kernel_rfl) (fun _ _ _ h => h) (Or.inl ⟨by rfl, ?_⟩) (by assumption) ?_
      rotate_left
      · intro w hSw
        (try dsimp only at hSw)
        go_simp
        all_goals with_reducible rfl
      try simp only [Act.put, List.getElem_toArray, List.getElem_cons_succ, List.getElem_cons_zero, List.setIfInBounds_toArray, List.set_cons_zero, List.set_cons_succ]
      refine wpAnyH_take (i := 4) (v := ?_) rfl (by kernel_rfl) (by kernel_rfl) (by kernel_rfl) (fun _ _ _ h => h) (Or.inl ⟨by rfl, ?_⟩) (by assumption) ?_
      rotate_left
      · intro w hSw
        (try dsimp only at hSw)
        go_simp
        all_goals with_reducible rfl
      try simp only [Act.put, List.getElem_toArray, List.getElem_cons_succ, List.getElem_cons_zero, List.setIfInBounds_toArray, List.set_cons_zero, List.set_cons_succ]
      refine wpAnyH_take (i := 5) (v := ?_) rfl (by kernel_rfl) (by kernel_rfl) (by kernel_rfl) (fun _ _ _ h => h) (Or.inl ⟨by rfl, ?_⟩) (by assumption) ?_
      rotate_left
      · intro w hSw
        (try dsimp only at hSw)
        go_simp
        all_goals with_reducible rfl
      try simp only [Act.put, List.getElem_toArray, List.getElem_cons_succ, List.getElem_cons_zero, List.setIfInBounds_toArray, List.set_cons_zero, List.set_cons_succ]
      refine wpAnyH_take (i := 6) (v := ?_) rfl (by kernel_rfl) (by kernel_rfl) (by kernel_rfl) (fun _ _ _ h => h) (Or.inl ⟨by rfl, ?_⟩) (by assumption) ?_
      rotate_left
      · intro w hSw
        (try dsimp only at hSw)
        go_simp
        all_goals with_reducible rfl
      try simp only [Act.put, List.getElem_toArray, List.getElem_cons_succ, List.getElem_cons_zero, List.setIfInBounds_toArray, List.set_cons_zero, List.set_cons_succ]
      refine wpAnyH_take (i := 7) (v := ?_) rfl (by kernel_rfl) (by kernel_rfl) (by kernel_rfl) (fun _ _ _ h => h) (Or.inl ⟨by rfl, ?_⟩) (by assumption) ?_
      rotate_left
      · intro w hSw
        (try dsimp only at hSw)
        go_simp
        all_goals with_reducible rfl
      try simp only [Act.put, List.getElem_toArray, List.getElem_cons_succ, List.getElem_cons_zero, List.setIfInBounds_toArray, List.set_cons_zero, List.set_cons_succ]
      refine wpAnyH_take (i := 8) (v := ?_) rfl (by kernel_rfl) (by kernel_rfl) (by kernel_rfl) (fun _ _ _ h => h) (Or.inl ⟨by rfl, ?_⟩) (by assumption) ?_
      rotate_left
      · intro w hSw
        (try dsimp only at hSw)
        go_simp
        all_goals with_reducible rfl
      try simp only [Act.put, List.getElem_toArray, List.getElem_cons_succ, List.getElem_cons_zero, List.setIfInBounds_toArray, List.set_cons_zero, List.set_cons_succ]
      refine wpAnyH_take (i := 9) (v := ?_) rfl (by kernel_rfl) (by kernel_rfl) (by kernel_rfl) (fun _ _ _ h => h) (Or.inl ⟨by rfl, ?_⟩) (by assumption) ?_
      rotate_left
      · intro w hSw
        (try dsimp only at hSw)
        go_simp
        all_goals with_reducible rfl
      try simp only [Act.put, List.getElem_toArray, List.getElem_cons_succ, List.getElem_cons_zero, List.setIfInBounds_toArray, List.set_cons_zero, List.set_cons_succ]
      refine wpAnyH_take (i := 10) (v := ?_) rfl (by kernel_rfl) (by kernel_rfl) (by kernel_rfl) (fun _ _ _ h => h) (Or.inl ⟨by rfl, ?_⟩) (by assumption) ?_
      rotate_left
      · intro w hSw
        (try dsimp only at hSw)
        go_simp
        all_goals with_reducible rfl
      try simp only [Act.put, List.getElem_toArray, List.getElem_cons_succ, List.getElem_cons_zero, List.setIfInBounds_toArray, List.set_cons_zero, List.set_cons_succ]
      refine wpAnyH_take (i := 12) (v := ?_) rfl (by kernel_rfl) (by kernel_rfl) (by kernel_rfl) (fun _ _ _ h => h) (Or.inl ⟨by rfl, ?_⟩) (by assumption) ?_
      rotate_left
      · intro w hSw
        (try dsimp only at hSw)
        go_simp
        all_goals with_reducible rfl
      try simp only [Act.put, List.getElem_toArray, List.getElem_cons_succ, List.getElem_cons_zero, List.setIfInBounds_toArray, List.set_cons_zero, List.set_cons_succ]
      refine wpAnyH_take (i := 14) (v := ?_) rfl (by kernel_rfl) (by kernel_rfl) (by kernel_rfl) (fun _ _ _ h => h) (Or.inl ⟨by rfl, ?_⟩) (by assumption) ?_
      rotate_left
      · intro w hSw
        (try dsimp only at hSw)
        go_simp
        all_goals with_reducible rfl
      try simp only [Act.put, List.getElem_toArray, List.getElem_cons_succ, List.getElem_cons_zero, List.setIfInBounds_toArray, List.set_cons_zero, List.set_cons_succ]
      refine wpAnyH_take (i := 15) (v := ?_) rfl (by kernel_rfl) (by kernel_rfl) (by kernel_rfl) (fun _ _ _ h => h) (Or.inl ⟨by rfl, ?_⟩) (by assumption) ?_
      rotate_left
      · intro w hSw
        (try dsimp only at hSw)
        go_simp
        all_goals with_reducible rfl
      try simp only [Act.put, List.getElem_toArray, List.getElem_cons_succ, List.getElem_cons_zero, List.setIfInBounds_toArray, List.set_cons_zero, List.set_cons_succ]
      refine wpAnyH_take (i := 16) (v := ?_) rfl (by kernel_rfl) (by kernel_rfl) (by kernel_rfl) (fun _ _ _ h => h) (Or.inl ⟨by rfl, ?_⟩) (by assumption) ?_
      rotate_left
      · intro w hSw
        (try dsimp only at hSw)
        go_simp
        all_goals with_reducible rfl
      try simp only [Act.put, List.getElem_toArray, List.getElem_cons_succ, List.getElem_cons_zero, List.setIfInBounds_toArray, List.set_cons_zero, List.set_cons_succ]
      refine wpAnyH_take (i := 17) (v := ?_) rfl (by kernel_rfl) (by kernel_rfl) (by kernel_rfl) (fun _ _ _ h => h) (Or.inl ⟨by rfl, ?_⟩) (by assumption) ?_
      rotate_left
      · intro w hSw
        (try dsimp only at hSw)
        go_simp
        all_goals with_reducible rfl
      try simp only [Act.put, List.getElem_toArray, List.getElem_cons_succ, List.getElem_cons_zero, List.setIfInBounds_toArray, List.set_cons_zero, List.set_cons_succ]
      refine wpAnyH_ready (rs := [11]) (by kernel_rfl) (by simp) ?_
      refine AllReadyH.cons rfl (fun K hK => ?_) AllReadyH.nil
      rw [if_pos (by rfl)]
      go_simp
      go_at_call 171
      refine (US.out _ hHeld.2.2.2).mono ?_
      rintro e w2 ⟨rfl, hb2⟩
      have S2 := SS.out _ hb2
      refine hK.out _ _ ?_ (fun hHeld => ?_)
      · exact S2
      clear hK K
      try simp only [Act.put, List.getElem_toArray, List.getElem_cons_succ, List.getElem_cons_zero, List.setIfInBounds_toArray, List.set_cons_zero, List.set_cons_succ]
      refine wpAnyH_take (i := 13) (v := ?_) rfl (by kernel_rfl) (by kernel_rfl) (by kernel_rfl) (fun _ _ _ h => h) (Or.inl ⟨by rfl, ?_⟩) (by assumption) ?_
      rotate_left
      · intro w hSw
        (try dsimp only at hSw)
        go_simp
        all_goals with_reducible rfl
      try simp only [Act.put, List.getElem_toArray, List.getElem_cons_succ, List.getElem_cons_zero, List.setIfInBounds_toArray, List.set_cons_zero, List.set_cons_succ]
      refine wpAnyH_take (i := 18) (v := ?_) rfl (by kernel_rfl) (by kernel_rfl) (by kernel_rfl) (fun _ _ _ h => h) (Or.inl ⟨by rfl, ?_⟩) (by assumption) ?_
      rotate_left
      · intro w hSw
        (try dsimp only at hSw)
        go_simp
        all_goals with_reducible rfl
      try simp only [Act.put, List.getElem_toArray, List.getElem_cons_succ, List.getElem_cons_zero, List.setIfInBounds_toArray, List.set_cons_zero, List.set_cons_succ]
      refine wpAnyH_take (i := 19) (v := ?_) rfl (by kernel_rfl) (by kernel_rfl) (by kernel_rfl) (fun _ _ _ h => h) (Or.inl ⟨by rfl, ?_⟩) (by assumption) ?_
      rotate_left
      · intro w hSw
        (try dsimp only at hSw)
        go_simp
        all_goals with_reducible rfl
      try simp only [Act.put, List.getElem_toArray, List.getElem_cons_succ, List.getElem_cons_zero, List.setIfInBounds_toArray, List.set_cons_zero, List.set_cons_succ]
      refine wpAnyH_take (i := 20) (v := ?_) rfl (by kernel_rfl) (by kernel_rfl) (by kernel_rfl) (fun _ _ _ h => h) (Or.inl ⟨by rfl, ?_⟩) (by assumption) ?_
      rotate_left
      · intro w hSw
        (try dsimp only at hSw)
        go_simp
        all_goals with_reducible rfl
      try simp only [Act.put, List.getElem_toArray, List.getElem_cons_succ, List.getElem_cons_zero, List.setIfInBounds_toArray, List.set_cons_zero, List.set_cons_succ]
      refine wpAnyH_done (by kernel_rfl) ?_ _
      have HB := Lib.hid hb2
      clear S2 S0 hHeld hb2
      go_wp2
      go_ret
      exact ⟨ret_bool (by rw [Hr.out, d2.out, Bool.eq_iff_iff]; simp only [Bool.or_true, Bool.true_and, decide_eq_true_eq]; omega), HB.out⟩
    · have d1 : decide ((Z : Int) < 64) = false := by simp; omega
      have d2 : Hid (decide (Z < 64) = false) := by show _ = _; simp; omega
      clear hz
      go_enter Tryz.func117, Tryz.ntmps117
      go_wp2_with fail
      refine wp_region_held_drew (S := fun x => x.cell? ⟨dp, 0, none⟩ = some (.map (some mb)) ∧ x.cell? ⟨dp, 1, none⟩ = some (.int .i64 (room : Int)) ∧ (∀ ty, (Builtin.len_ #[72] ty #[.map (some mb)]).run Tryz.prog x = .ok (.int .i64 (Z : Nat)) x) ∧ Below w.heap.size w x) (by kernel_rfl) S0 (fun hHeld => ?_)
      refine wpAnyH_take (i := 0) (v := ?_) rfl (by kernel_rfl) (by kernel_rfl) (by kernel_rfl) (fun _ _ _ h => h) (Or.inl ⟨by rfl, ?_⟩) (by assumption) ?_
      rotate_left
      · intro w hSw
        (try dsimp only at hSw)
        go_simp
        all_goals with_reducible rfl
      try simp only [Act.put, List.getElem_toArray, List.getElem_cons_succ, List.getElem_cons_zero, List.setIfInBounds_toArray, List.set_cons_zero, List.set_cons_succ]
      refine wpAnyH_take (i := 1) (v := ?_) rfl (by kernel_rfl) (by kernel_rfl) (by kernel_rfl) (fun _ _ _ h => h) (Or.inl ⟨by rfl, ?_⟩) (by assumption) ?_
      rotate_left
      · intro w hSw
        (try dsimp only at hSw)
        go_simp
        all_goals with_reducible rfl
      try simp only [Act.put, List.getElem_toArray, List.getElem_cons_succ, List.getElem_cons_zero, List.setIfInBounds_toArray, List.set_cons_zero, List.set_cons_succ]
      refine wpAnyH_take (i := 2) (v := ?_) rfl (by kernel_rfl) (by kernel_rfl) (by kernel_rfl) (fun _ _ _ h => h) (Or.inl ⟨by rfl, ?_⟩) (by assumption) ?_
      rotate_left
      · intro w hSw
        (try dsimp only at hSw)
        go_simp
        all_goals with_reducible rfl
      try simp only [Act.put, List.getElem_toArray, List.getElem_cons_succ, List.getElem_cons_zero, List.setIfInBounds_toArray, List.set_cons_zero, List.set_cons_succ]
      refine wpAnyH_take (i := 3) (v := ?_) rfl (by kernel_rfl) (by kernel_rfl) (by kernel_rfl) (fun _ _ _ h => h) (Or.inl ⟨by rfl, ?_⟩) (by assumption) ?_
      rotate_left
      · intro w hSw
        (try dsimp only at hSw)
        go_simp
        all_goals with_reducible rfl
      try simp only [Act.put, List.getElem_toArray, List.getElem_cons_succ, List.getElem_cons_zero, List.setIfInBounds_toArray, List.set_cons_zero, List.set_cons_succ]
      refine wpAnyH_take (i := 4) (v := ?_) rfl (by kernel_rfl) (by kernel_rfl) (by kernel_rfl) (fun _ _ _ h => h) (Or.inl ⟨by rfl, ?_⟩) (by assumption) ?_
      rotate_left
      · intro w hSw
        (try dsimp only at hSw)
        go_simp
        all_goals with_reducible rfl
      try simp only [Act.put, List.getElem_toArray, List.getElem_cons_succ, List.getElem_cons_zero, List.setIfInBounds_toArray, List.set_cons_zero, List.set_cons_succ]
      refine wpAnyH_take (i := 5) (v := ?_) rfl (by kernel_rfl) (by kernel_rfl) (by kernel_rfl) (fun _ _ _ h => h) (Or.inl ⟨by rfl, ?_⟩) (by assumption) ?_
      rotate_left
      · intro w hSw
        (try dsimp only at hSw)
        go_simp
        all_goals with_reducible rfl
      try simp only [Act.put, List.getElem_toArray, List.getElem_cons_succ, List.getElem_cons_zero, List.setIfInBounds_toArray, List.set_cons_zero, List.set_cons_succ]
      refine wpAnyH_take (i := 6) (v := ?_) rfl (by kernel_rfl) (by kernel_rfl) (by kernel_rfl) (fun _ _ _ h => h) (Or.inl ⟨by rfl, ?_⟩) (by assumption) ?_
      rotate_left
      · intro w hSw
        (try dsimp only at hSw)
        go_simp
        all_goals with_reducible rfl
      try simp only [Act.put, List.getElem_toArray, List.getElem_cons_succ, List.getElem_cons_zero, List.setIfInBounds_toArray, List.set_cons_zero, List.set_cons_succ]
      refine wpAnyH_take (i := 7) (v := ?_) rfl (by kernel_rfl) (by kernel_rfl) (by kernel_rfl) (fun _ _ _ h => h) (Or.inl ⟨by rfl, ?_⟩) (by assumption) ?_
      rotate_left
      · intro w hSw
        (try dsimp only at hSw)
        go_simp
        all_goals with_reducible rfl
      try simp only [Act.put, List.getElem_toArray, List.getElem_cons_succ, List.getElem_cons_zero, List.setIfInBounds_toArray, List.set_cons_zero, List.set_cons_succ]
      refine wpAnyH_take (i := 8) (v := ?_) rfl (by kernel_rfl) (by kernel_rfl) (by kernel_rfl) (fun _ _ _ h => h) (Or.inl ⟨by rfl, ?_⟩) (by assumption) ?_
      rotate_left
      · intro w hSw
        (try dsimp only at hSw)
        go_simp
        all_goals with_reducible rfl
      try simp only [Act.put, List.getElem_toArray, List.getElem_cons_succ, List.getElem_cons_zero, List.setIfInBounds_toArray, List.set_cons_zero, List.set_cons_succ]
      refine wpAnyH_take (i := 9) (v := ?_) rfl (by kernel_rfl) (by kernel_rfl) (by kernel_rfl) (fun _ _ _ h => h) (Or.inl ⟨by rfl, ?_⟩) (by assumption) ?_
      rotate_left
      · intro w hSw
        (try dsimp only at hSw)
        go_simp
        all_goals with_reducible rfl
      try simp only [Act.put, List.getElem_toArray, List.getElem_cons_succ, List.getElem_cons_zero, List.setIfInBounds_toArray, List.set_cons_zero, List.set_cons_succ]
      refine wpAnyH_take (i := 10) (v := undef) rfl (by kernel_rfl) (by kernel_rfl) (by kernel_rfl) (fun _ _ _ h => h) (Or.inr ⟨by rfl, rfl⟩) (by assumption) ?_
      try simp only [Act.put, List.getElem_toArray, List.getElem_cons_succ, List.getElem_cons_zero, List.setIfInBounds_toArray, List.set_cons_zero, List.set_cons_succ]
      refine wpAnyH_take (i := 11) (v := undef) rfl (by kernel_rfl) (by kernel_rfl) (by kernel_rfl) (fun _ _ _ h => h) (Or.inr ⟨by rfl, rfl⟩) (by assumption) ?_
      try simp only [Act.put, List.getElem_toArray, List.getElem_cons_succ, List.getElem_cons_zero, List.setIfInBounds_toArray, List.set_cons_zero, List.set_cons_succ]
      refine wpAnyH_take (i := 12) (v := undef) rfl (by kernel_rfl) (by kernel_rfl) (by kernel_rfl) (fun _ _ _ h => h) (Or.inr ⟨by rfl, rfl⟩) (by assumption) ?_
      try simp only [Act.put, List.getElem_toArray, List.getElem_cons_succ, List.getElem_cons_zero, List.setIfInBounds_toArray, List.set_cons_zero, List.set_cons_succ]
      refine wpAnyH_take (i := 13) (v := undef) rfl (by kernel_rfl) (by kernel_rfl) (by kernel_rfl) (fun _ _ _ h => h) (Or.inr ⟨by rfl, rfl⟩) (by assumption) ?_
      try simp only [Act.put, List.getElem_toArray, List.getElem_cons_succ, List.getElem_cons_zero, List.setIfInBounds_toArray, List.set_cons_zero, List.set_cons_succ]
      refine wpAnyH_take (i := 14) (v := undef) rfl (by kernel_rfl) (by kernel_rfl) (by kernel_rfl) (fun _ _ _ h => h) (Or.inr ⟨by rfl, rfl⟩) (by assumption) ?_
      try simp only [Act.put, List.getElem_toArray, List.getElem_cons_succ, List.getElem_cons_zero, List.setIfInBounds_toArray, List.set_cons_zero, List.set_cons_succ]
      refine wpAnyH_take (i := 15) (v := undef) rfl (by kernel_rfl) (by kernel_rfl) (by kernel_rfl) (fun _ _ _ h => h) (Or.inr ⟨by rfl, rfl⟩) (by assumption) ?_
      try simp only [Act.put, List.getElem_toArray, List.getElem_cons_succ, List.getElem_cons_zero, List.setIfInBounds_toArray, List.set_cons_zero, List.set_cons_succ]
      refine wpAnyH_take (i := 16) (v := undef) rfl (by kernel_rfl) (by kernel_rfl) (by kernel_rfl) (fun _ _ _ h => h) (Or.inr ⟨by rfl, rfl⟩) (by assumption) ?_
      try simp only [Act.put, List.getElem_toArray, List.getElem_cons_succ, List.getElem_cons_zero, List.setIfInBounds_toArray, List.set_cons_zero, List.set_cons_succ]
      refine wpAnyH_take (i := 17) (v := undef) rfl (by kernel_rfl) (by kernel_rfl) (by kernel_rfl) (fun _ _ _ h => h) (Or.inr ⟨by rfl, rfl⟩) (by assumption) ?_
      try simp only [Act.put, List.getElem_toArray, List.getElem_cons_succ, List.getElem_cons_zero, List.setIfInBounds_toArray, List.set_cons_zero, List.set_cons_succ]
      refine wpAnyH_take (i := 18) (v := undef) rfl (by kernel_rfl) (by kernel_rfl) (by kernel_rfl) (fun _ _ _ h => h) (Or.inr ⟨by rfl, rfl⟩) (by assumption) ?_
      try simp only [Act.put, List.getElem_toArray, List.getElem_cons_succ, List.getElem_cons_zero, List.setIfInBounds_toArray, List.set_cons_zero, List.set_cons_succ]
      refine wpAnyH_take (i := 19) (v := ?_) rfl (by kernel_rfl) (by kernel_rfl) (by kernel_rfl) (fun _ _ _ h => h) (Or.inl ⟨by rfl, ?_⟩) (by assumption) ?_
      rotate_left
      · intro w hSw
        (try dsimp only at hSw)
        go_simp
        all_goals with_reducible rfl
      try simp only [Act.put, List.getElem_toArray, List.getElem_cons_succ, List.getElem_cons_zero, List.setIfInBounds_toArray, List.set_cons_zero, List.set_cons_succ]
      refine wpAnyH_take (i := 20) (v := ?_) rfl (by kernel_rfl) (by kernel_rfl) (by kernel_rfl) (fun _ _ _ h => h) (Or.inl ⟨by rfl, ?_⟩) (by assumption) ?_
      rotate_left
      · intro w hSw
        (try dsimp only at hSw)
        go_simp
        all_goals with_reducible rfl
      try simp only [Act.put, List.getElem_toArray, List.getElem_cons_succ, List.getElem_cons_zero, List.setIfInBounds_toArray, List.set_cons_zero, List.set_cons_succ]
      refine wpAnyH_done (by kernel_rfl) ?_ _
      clear S0 hHeld
      go_wp2
      go_ret
      exact ⟨ret_bool (by rw [Hr.out, d2.out]; rfl), Below.drew hB⟩
  · have d2 : Hid ((true || decide (Z < 64)) = true) := rfl
    go_enter Tryz.func117, Tryz.ntmps117
    go_wp2_with fail
    refine wp_region_held_drew (S := fun x => x.cell? ⟨dp, 0, none⟩ = some (.map (some mb)) ∧ x.cell? ⟨dp, 1, none⟩ = some (.int .i64 (room : Int)) ∧ (∀ ty, (Builtin.len_ #[72] ty #[.map (some mb)]).run Tryz.prog x = .ok (.int .i64 (Z : Nat)) x) ∧ Below w.heap.size w x) (by kernel_rfl) S0 (fun hHeld => ?_)
    refine wpAnyH_take (i := 0) (v := ?_) rfl (by kernel_rfl) (by kernel_rfl) (by kernel_rfl) (fun _ _ _ h => h) (Or.inl ⟨by rfl, ?_⟩) (by assumption) ?_
    rotate_left
    · intro w hSw
      (try dsimp only at hSw)
      go_simp
      all_goals with_reducible rfl
    try simp only [Act.put, List.getElem_toArray, List.getElem_cons_succ, List.getElem_cons_zero, List.setIfInBounds_toArray, List.set_cons_zero, List.set_cons_succ]
    refine wpAnyH_take (i := 1) (v := ?_) rfl (by kernel_rfl) (by kernel_rfl) (by kernel_rfl) (fun _ _ _ h => h) (Or.inl ⟨by rfl, ?_⟩) (by assumption) ?_
    rotate_left
    · intro w hSw
      (try dsimp only at hSw)
      go_simp
      all_goals with_reducible rfl
    try simp only [Act.put, List.getElem_toArray, List.getElem_cons_succ, List.getElem_cons_zero, List.setIfInBounds_toArray, List.set_cons_zero, List.set_cons_succ]
    refine wpAnyH_take (i := 2) (v := undef) rfl (by kernel_rfl) (by kernel_rfl) (by kernel_rfl) (fun _ _ _ h => h) (Or.inr ⟨by rfl, rfl⟩) (by assumption) ?_
    try simp only [Act.put, List.getElem_toArray, List.getElem_cons_succ, List.getElem_cons_zero, List.setIfInBounds_toArray, List.set_cons_zero, List.set_cons_succ]
    refine wpAnyH_take (i := 3) (v := undef) rfl (by kernel_rfl) (by kernel_rfl) (by kernel_rfl) (fun _ _ _ h => h) (Or.inr ⟨by rfl, rfl⟩) (by assumption) ?_
    try simp only [Act.put, List.getElem_toArray, List.getElem_cons_succ, List.getElem_cons_zero, List.setIfInBounds_toArray, List.set_cons_zero, List.set_cons_succ]
    refine wpAnyH_take (i := 4) (v := undef) rfl (by kernel_rfl) (by kernel_rfl) (by kernel_rfl) (fun _ _ _ h => h) (Or.inr ⟨by rfl, rfl⟩) (by assumption) ?_
    try simp only [Act.put, List.getElem_toArray, List.getElem_cons_succ, List.getElem_cons_zero, List.setIfInBounds_toArray, List.set_cons_zero, List.set_cons_succ]
    refine wpAnyH_take (i := 5) (v := undef) rfl (by kernel_rfl) (by kernel_rfl) (by kernel_rfl) (fun _ _ _ h => h) (Or.inr ⟨by rfl, rfl⟩) (by assumption) ?_
    try simp only [Act.put, List.getElem_toArray, List.getElem_cons_succ, List.getElem_cons_zero, List.setIfInBounds_toArray, List.set_cons_zero, List.set_cons_succ]
    refine wpAnyH_take (i := 6) (v := undef) rfl (by kernel_rfl) (by kernel_rfl) (by kernel_rfl) (fun _ _ _ h => h) (Or.inr ⟨by rfl, rfl⟩) (by assumption) ?_
    try simp only [Act.put, List.getElem_toArray, List.getElem_cons_succ, List.getElem_cons_zero, List.setIfInBounds_toArray, List.set_cons_zero, List.set_cons_succ]
    refine wpAnyH_take (i := 7) (v := undef) rfl (by kernel_rfl) (by kernel_rfl) (by kernel_rfl) (fun _ _ _ h => h) (Or.inr ⟨by rfl, rfl⟩) (by assumption) ?_
    try simp only [Act.put, List.getElem_toArray, List.getElem_cons_succ, List.getElem_cons_zero, List.setIfInBounds_toArray, List.set_cons_zero, List.set_cons_succ]
    refine wpAnyH_take (i := 8) (v := ?_) rfl (by kernel_rfl) (by kernel_rfl) (by kernel_rfl) (fun _ _ _ h => h) (Or.inl ⟨by rfl, ?_⟩) (by assumption) ?_
    rotate_left
    · intro w hSw
      (try dsimp only at hSw)
      go_simp
      all_goals with_reducible rfl
    try simp only [Act.put, List.getElem_toArray, List.getElem_cons_succ, List.getElem_cons_zero, List.setIfInBounds_toArray, List.set_cons_zero, List.set_cons_succ]
    refine wpAnyH_take (i := 9) (v := ?_) rfl (by kernel_rfl) (by kernel_rfl) (by kernel_rfl) (fun _ _ _ h => h) (Or.inl ⟨by rfl, ?_⟩) (by assumption) ?_
    rotate_left
    · intro w hSw
      (try dsimp only at hSw)
      go_simp
      all_goals with_reducible rfl
    try simp only [Act.put, List.getElem_toArray, List.getElem_cons_succ, List.getElem_cons_zero, List.setIfInBounds_toArray, List.set_cons_zero, List.set_cons_succ]
    refine wpAnyH_take (i := 10) (v := ?_) rfl (by kernel_rfl) (by kernel_rfl) (by kernel_rfl) (fun _ _ _ h => h) (Or.inl ⟨by rfl, ?_⟩) (by assumption) ?_
    rotate_left
    · intro w hSw
      (try dsimp only at hSw)
      go_simp
      all_goals with_reducible rfl
    try simp only [Act.put, List.getElem_toArray, List.getElem_cons_succ, List.getElem_cons_zero, List.setIfInBounds_toArray, List.set_cons_zero, List.set_cons_succ]
    refine wpAnyH_take (i := 12) (v := ?_) rfl (by kernel_rfl) (by kernel_rfl) (by kernel_rfl) (fun _ _ _ h => h) (Or.inl ⟨by rfl, ?_⟩) (by assumption) ?_
    rotate_left
    · intro w hSw
      (try dsimp only at hSw)
      go_simp
      all_goals with_reducible rfl
    try simp only [Act.put, List.getElem_toArray, List.getElem_cons_succ, List.getElem_cons_zero, List.setIfInBounds_toArray, List.set_cons_zero, List.set_cons_succ]
    refine wpAnyH_take (i := 14) (v := ?_) rfl (by kernel_rfl) (by kernel_rfl) (by kernel_rfl) (fun _ _ _ h => h) (Or.inl ⟨by rfl, ?_⟩) (by assumption) ?_
    rotate_left
    · intro w hSw
      (try dsimp only at hSw)
      go_simp
      all_goals with_reducible rfl
    try simp only [Act.put, List.getElem_toArray, List.getElem_cons_succ, List.getElem_cons_zero, List.setIfInBounds_toArray, List.set_cons_zero, List.set_cons_succ]
    refine wpAnyH_take (i := 15) (v := ?_) rfl (by kernel_rfl) (by kernel_rfl) (by kernel_rfl) (fun _ _ _ h => h) (Or.inl ⟨by rfl, ?_⟩) (by assumption) ?_
    rotate_left
    · intro w hSw
      (try dsimp only at hSw)
      go_simp
      all_goals with_reducible rfl
    try simp only [Act.put, List.getElem_toArray, List.getElem_cons_succ, List.getElem_cons_zero, List.setIfInBounds_toArray, List.set_cons_zero, List.set_cons_succ]
    refine wpAnyH_take (i := 16) (v := ?_) rfl (by kernel_rfl) (by kernel_rfl) (by kernel_rfl) (fun _ _ _ h => h) (Or.inl ⟨by rfl, ?_⟩) (by assumption) ?_
    rotate_left
    · intro w hSw
      (try dsimp only at hSw)
      go_simp
      all_goals with_reducible rfl
    try simp only [Act.put, List.getElem_toArray, List.getElem_cons_succ, List.getElem_cons_zero, List.setIfInBounds_toArray, List.set_cons_zero, List.set_cons_succ]
    refine wpAnyH_take (i := 17) (v := ?_) rfl (by kernel_rfl) (by kernel_rfl) (by kernel_rfl) (fun _ _ _ h => h) (Or.inl ⟨by rfl, ?_⟩) (by assumption) ?_
    rotate_left
    · intro w hSw
      (try dsimp only at hSw)
      go_simp
      all_goals with_reducible rfl
    try simp only [Act.put, List.getElem_toArray, List.getElem_cons_succ, List.getElem_cons_zero, List.setIfInBounds_toArray, List.set_cons_zero, List.set_cons_succ]
    refine wpAnyH_ready (rs := [11]) (by kernel_rfl) (by simp) ?_
    refine AllReadyH.cons rfl (fun K hK => ?_) AllReadyH.nil
    rw [if_pos (by rfl)]
    go_simp
    go_at_call 171
    refine (US.out _ hHeld.2.2.2).mono ?_
    rintro e w2 ⟨rfl, hb2⟩
    have S2 := SS.out _ hb2
    refine hK.out _ _ ?_ (fun hHeld => ?_)
    · exact S2
    clear hK K
    try simp only [Act.put, List.getElem_toArray, List.getElem_cons_succ, List.getElem_cons_zero, List.setIfInBounds_toArray, List.set_cons_zero, List.set_cons_succ]
    refine wpAnyH_take (i := 13) (v := ?_) rfl (by kernel_rfl) (by kernel_rfl) (by kernel_rfl) (fun _ _ _ h => h) (Or.inl ⟨by rfl, ?_⟩) (by assumption) ?_
    rotate_left
    · intro w hSw
      (try dsimp only at hSw)
      go_simp
      all_goals with_reducible rfl
    try simp only [Act.put, List.getElem_toArray, List.getElem_cons_succ, List.getElem_cons_zero, List.setIfInBounds_toArray, List.set_cons_zero, List.set_cons_succ]
    refine wpAnyH_take (i := 18) (v := ?_) rfl (by kernel_rfl) (by kernel_rfl) (by kernel_rfl) (fun _ _ _ h => h) (Or.inl ⟨by rfl, ?_⟩) (by assumption) ?_
    rotate_left
    · intro w hSw
      (try dsimp only at hSw)
      go_simp
      all_goals with_reducible rfl
    try simp only [Act.put, List.getElem_toArray, List.getElem_cons_succ, List.getElem_cons_zero, List.setIfInBounds_toArray, List.set_cons_zero, List.set_cons_succ]
    refine wpAnyH_take (i := 19) (v := ?_) rfl (by kernel_rfl) (by kernel_rfl) (by kernel_rfl) (fun _ _ _ h => h) (Or.inl ⟨by rfl, ?_⟩) (by assumption) ?_
    rotate_left
    · intro w hSw
      (try dsimp only at hSw)
      go_simp
      all_goals with_reducible rfl
    try simp only [Act.put, List.getElem_toArray, List.getElem_cons_succ, List.getElem_cons_zero, List.setIfInBounds_toArray, List.set_cons_zero, List.set_cons_succ]
    refine wpAnyH_take (i := 20) (v := ?_) rfl (by kernel_rfl) (by kernel_rfl) (by kernel_rfl) (fun _ _ _ h => h) (Or.inl ⟨by rfl, ?_⟩) (by assumption) ?_
    rotate_left
    · intro w hSw
      (try dsimp only at hSw)
      go_simp
      all_goals with_reducible rfl
    try simp only [Act.put, List.getElem_toArray, List.getElem_cons_succ, List.getElem_cons_zero, List.setIfInBounds_toArray, List.set_cons_zero, List.set_cons_succ]
    refine wpAnyH_done (by kernel_rfl) ?_ _
    have HB := Lib.hid hb2
    clear S2 S0 hHeld hb2
    go_wp2
    go_ret
    exact ⟨ret_bool (by rw [Hr.out, d2.out, Bool.eq_iff_iff]; simp only [Bool.or_true, Bool.true_and, decide_eq_true_eq]; omega), HB.out⟩
end
end
section
open Go.RowKit
open Go.Maps
attribute [local go_sem] Oper.semAt_some

def St.write (t : St) (s : List UInt8) (b : List Nat) : Int × St :=
  if t.fuse = 0 then (42, t) else
  if nmOk s = false then (1, t.burnt) else
  if fitsB t.D t.room s b.length = false then (5, t.burnt) else
  (0, { t.burnt with D := t.D.put (.string s) (.held ⟨((fat t.D s).getD Fl.zero).bs ++ b, ((fat t.D s).getD Fl.zero).l⟩) })
section
variable {w : World} {dp mb room : Nat} {C : DataW Fe} {D : FS} {fuse fails : Int} {O : Nat → Prop}
/-- What the closure of Write answers. -/
def wrOf1 (D : FS) (room : Nat) (fuse fails : Int) (s : List UInt8) (b : List Nat) : Int × St :=
  if nmOk s = false then (1, ⟨D, room, fuse, fails⟩) else
  if fitsB D room s b.length = false then (5, ⟨D, room, fuse, fails⟩) else
  (0, ⟨D.put (.string s) (.held ⟨((fat D s).getD Fl.zero).bs ++ b, ((fat D s).getD Fl.zero).l⟩), room, fuse, fails⟩)
theorem DskC.file_ (h : DskC w dp mb C D room fuse fails O) (s : List UInt8) : (cat C (.string s)).l = (((fat D s).getD Fl.zero).l : Int) ∧ OwnB w 0 5 (cat C (.string s)).sl ((fat D s).getD Fl.zero).bs ∧
    (∀ c ∈ ((fat D s).getD Fl.zero).bs, c < 256) ∧ ((fat D s).getD Fl.zero).l ≤ ((fat D s).getD Fl.zero).bs.length ∧ ((fat D s).getD Fl.zero).bs.length ≤ 1048576 ∧
    (∀ k f' b, k ≠ .string s → look C k = some (.held f') → (cat C (.string s)).sl.ownBlock = some b → f'.sl.ownBlock ≠ some b) ∧ (∀ b, (cat C (.string s)).sl.ownBlock = some b → O b ∧ b ≠ mb ∧ b ≠ dp) ∧
    (∀ b, (cat C (.string s)).sl.ownBlock = some b → look C (.string s) = some (.held (cat C (.string s)))) := by
  cases hf : fat D s with
  | none =>
    obtain ⟨h1, h2⟩ := h.files.cat_none h.good s hf
    rw [h2]
    refine ⟨rfl, OwnB.nil_ _ _ _, fun c hc => ?_, Nat.le_refl _, Nat.zero_le _, fun k f' b _ _ hb => ?_, fun b hb => ?_, fun b hb => ?_⟩
    · cases hc
    · cases hb
    · cases hb
    · cases hb
  | some g =>
    have hC := h.files.cat_ s g hf
    exact ⟨hC.2.1, hC.2.2, (h.good.at_ hf).2.2.1, (h.good.at_ hf).2.1, h.room_ hf, fun k f' b hk hl hb he => hk (h.files.apart k _ f' _ b hl hC.1 he hb), fun b hb => h.files.fileO _ _ b hC.1 hb, fun b _ => hC.1⟩
theorem good_write (h : Good D room) {s : List UInt8} {b : List Nat} (hb : ∀ c ∈ b, c < 256) (hn : nmOk s = true) (hf : fitsB D room s b.length = true) (h1 : ∀ c ∈ ((fat D s).getD Fl.zero).bs, c < 256) (h2 : ((fat D s).getD Fl.zero).l ≤ ((fat D s).getD Fl.zero).bs.length) :
    Good (D.put (.string s) (.held ⟨((fat D s).getD Fl.zero).bs ++ b, ((fat D s).getD Fl.zero).l⟩)) room := by
  unfold fitsB at hf
  simp only [Bool.and_eq_true, Bool.or_eq_true, decide_eq_true_eq] at hf
  exact h.put hn (by simp; omega) (fun c hc => by rcases List.mem_append.1 hc with hc | hc; exact h1 c hc; exact hb c hc) hf.1 (by simp; omega)
set_option linter.unusedSimpArgs false in
set_option maxRecDepth 100000 in
set_option maxHeartbeats 3200000 in
theorem write1_any (h : DskC w dp mb C D room fuse fails O) (s : ByteArray) (hs : s.size ≤ 281474976710656) (a : Option Addr) (n c : Nat) (b : List Nat) (hsl : Sl w w.heap.size a n c b) (hn : n ≤ 140737488351232) (hfar : 0 < n → ∀ k o, a = some ⟨k, o, none⟩ → ¬ O k)
    (bn bd bb : Nat) (c1 : w.cell? ⟨bn, 0, none⟩ = some (.string s)) (c2 : w.cell? ⟨bd, 0, none⟩ = some (.pointer (some ⟨dp, 0, none⟩))) (c3 : w.cell? ⟨bb, 0, none⟩ = some (.slice a n c)) (hbn : ¬ O bn) (hbd : ¬ O bd) :
    Calls Tryz.prog 116 #[.pointer (some ⟨bn, 0, none⟩), .pointer (some ⟨bd, 0, none⟩), .pointer (some ⟨bb, 0, none⟩)] w (Tells1 (Left w dp O (wrOf1 D room fuse fails s.data.toList b))) := by
  have hlen := hsl.length
  have IN := Lib.hid (isName_any s (by unfold maxLen; omega))
  cases hnm : nmOk s.data.toList with
  | false =>
    have hr : wrOf1 D room fuse fails s.data.toList b = (1, ⟨D, room, fuse, fails⟩) := by unfold wrOf1; rw [if_pos hnm]
    rw [hr]
    rw [hnm] at IN
    have HL := Lib.hid (Left.same (w := w) (x := 1) (t := ⟨D, room, fuse, fails⟩) h (But.refl O w))
    clear h hnm hr hsl hlen
    go_enter Tryz.func116, Tryz.ntmps116
    go_wp2_with (go_at_call 114; refine (IN.out _).mono ?_; rintro e w' ⟨rfl, rfl⟩)
    go_ret
    exact ⟨1, rfl, HL.out⟩
  | true =>
    rw [hnm] at IN
    have FT := Lib.hid (fits_any h s (by unfold maxLen; omega) n (by omega))
    cases hft : fitsB D room s.data.toList n with
    | false =>
      have hr : wrOf1 D room fuse fails s.data.toList b = (5, ⟨D, room, fuse, fails⟩) := by unfold wrOf1; rw [if_neg (by rw [hnm]; decide), hlen, if_pos hft]
      rw [hr]
      rw [hft] at FT
      have HH := Lib.hid h
      clear h hnm hr hsl hlen hft
      go_enter Tryz.func116, Tryz.ntmps116
      go_wp2_with (first | (go_at_call 114; refine (IN.out _).mono ?_; rintro e w' ⟨rfl, rfl⟩) | fail)
      refine FT.out.mono ?_
      rintro e w2 ⟨rfl, hb2⟩
      have HB := Lib.hid hb2
      clear hb2
      go_wp2
      go_ret
      exact ⟨5, rfl, Left.same (t := ⟨D, room, fuse, fails⟩) (HH.out.below HB.out) (But.of_below HB.out)⟩
    | true =>
      have hr : wrOf1 D room fuse fails s.data.toList b = (0, ⟨D.put (.string s.data.toList) (.held ⟨((fat D s.data.toList).getD Fl.zero).bs ++ b, ((fat D s.data.toList).getD Fl.zero).l⟩), room, fuse, fails⟩) := by
        unfold wrOf1; rw [if_neg (by rw [hnm]; decide), hlen, if_neg (by rw [hft]; decide)]
      rw [hr]
      rw [hft] at FT
      obtain ⟨f1, f2, f3, f4, f5, f6, f7, f8⟩ := h.file_ s.data.toList
      have hn20 : n ≤ 1048576 := by
        have h1 := hft
        unfold fitsB at h1
        simp only [Bool.and_eq_true, decide_eq_true_eq] at h1
        have h2 := h.good.room_
        omega
      have hgw := good_write h.good hsl.byte hnm (by rw [hlen]; exact hft) f3 f4
      have HH := Lib.hid (And.intro h (And.intro f6 (And.intro f7 (And.intro f8 (And.intro hgw (And.intro f1 (And.intro f3 hsl)))))))
      have hl1 := block_lt_of_cell c1
      have hl2 := block_lt_of_cell c2
      have hl3 := block_lt_of_cell c3
      generalize hg : (fat D s.data.toList).getD Fl.zero = g at *
      clear hnm hr hft hgw f6 f7 f8 f1 hg f4
      go_enter Tryz.func116, Tryz.ntmps116
      go_wp2_with (first | (go_at_call 114; refine (IN.out _).mono ?_; rintro e w' ⟨rfl, rfl⟩) | fail)
      refine FT.out.mono ?_
      rintro e w2 ⟨rfl, hb2⟩
      have k1 := (hb2.cell (p := ⟨bn, 0, none⟩) hl1).trans c1
      have k2 := (hb2.cell (p := ⟨bd, 0, none⟩) hl2).trans c2
      have k3 := (hb2.cell (p := ⟨bb, 0, none⟩) hl3).trans c3
      have h2 := h.below hb2
      have SS := Lib.hid (fun (w' : World) (hb : Below w2.heap.size w2 w') => h2.sees (s := s) (by unfold maxLen; omega) k2 k1 hb)
      have S0 := SS.out w2.drew (Below.drew (Below.refl _ _))
      have own2 := f2.below hb2
      have sl2 := (hsl.below hb2 (Nat.le_refl _)).more hb2.size
      unfold Sees at S0 SS
      generalize cat C (.string s.data.toList) = f at *
      have HB : Below w2.heap.size w2 (w2.alloc (.cells #[.slice f.a f.n f.c, .int .i64 f.l] 111)).drew := Below.drew ((Below.refl _ _).alloc (Nat.le_refl _) _)
      have own3 : OwnB (w2.alloc (.cells #[.slice f.a f.n f.c, .int .i64 f.l] 111)).drew 0 5 (.slice f.a f.n f.c) g.bs := own2.below HB
      have sl3 := sl2.below HB (Nat.le_refl _)
      have ob : f.sl.ownBlock ≠ some w2.heap.size := fun e => by have := (own2.at_base e).2; omega
      have H2 := Lib.hid (And.intro h2 (And.intro hb2 (And.intro own3 sl3)))
      clear h h2 own2 sl2 hsl f2 c1 c2 c3 hb2 FT IN
      go_wp2_with fail
      refine wp_region_held_drew (S := fun x => x.cell? ⟨dp, 0, none⟩ = some (.map (some mb)) ∧ x.cell? ⟨bd, 0, none⟩ = some (.pointer (some ⟨dp, 0, none⟩)) ∧ x.cell? ⟨bn, 0, none⟩ = some (.string s) ∧
        (Instr.lookup 72 (.map (some mb)) (.string s) false).run Tryz.prog x = .ok (.agg #[.slice f.a f.n f.c, .int .i64 f.l]) x) (by kernel_rfl) ⟨S0.1, S0.2.1, S0.2.2.1, S0.2.2.2.2⟩ (fun hHeld => ?_)
      refine wpAnyH_take (i := 0) (v := ?_) rfl (by kernel_rfl) (by kernel_rfl) (by kernel_rfl) (fun _ _ _ h => h) (Or.inl ⟨by rfl, ?_⟩) (by assumption) ?_
      rotate_left
      · intro w hSw
        (try dsimp only at hSw)
        go_simp
        all_goals with_reducible rfl
      try simp only [Act.put, List.getElem_toArray, List.getElem_cons_succ, List.getElem_cons_zero, List.setIfInBounds_toArray, List.set_cons_zero, List.set_cons_succ]
      refine wpAnyH_take (i := 1) (v := ?_) rfl (by kernel_rfl) (by kernel_rfl) (by kernel_rfl) (fun _ _ _ h => h) (Or.inl ⟨by rfl, ?_⟩) (by assumption) ?_
      rotate_left
      · intro w hSw
        (try dsimp only at hSw)
        go_simp
        all_goals with_reducible rfl
      try simp only [Act.put, List.getElem_toArray, List.getElem_cons_succ, List.getElem_cons_zero, List.setIfInBounds_toArray, List.set_cons_zero, List.set_cons_succ]
      refine wpAnyH_take (i := 2) (v := ?_) rfl (by kernel_rfl) (by kernel_rfl) (by kernel_rfl) (fun _ _ _ h => h) (Or.inl ⟨by rfl, ?_⟩) (by assumption) ?_
      rotate_left
      · intro w hSw
        (try dsimp only at hSw)
        go_simp
        all_goals with_reducible rfl
      try simp only [Act.put, List.getElem_toArray, List.getElem_cons_succ, List.getElem_cons_zero, List.setIfInBounds_toArray, List.set_cons_zero, List.set_cons_succ]
      refine wpAnyH_take (i := 3) (v := ?_) rfl (by kernel_rfl) (by kernel_rfl) (by kernel_rfl) (fun _ _ _ h => h) (Or.inl ⟨by rfl, ?_⟩) (by assumption) ?_
      rotate_left
      · intro w hSw
        (try dsimp only at hSw)
        go_simp
        all_goals with_reducible rfl
      try simp only [Act.put, List.getElem_toArray, List.getElem_cons_succ, List.getElem_cons_zero, List.setIfInBounds_toArray, List.set_cons_zero, List.set_cons_succ]
      refine wpAnyH_take (i := 4) (v := ?_) rfl (by kernel_rfl) (by kernel_rfl) (by kernel_rfl) (fun _ _ _ h => h) (Or.inl ⟨by rfl, ?_⟩) (by assumption) ?_
      rotate_left
      · intro w hSw
        (try dsimp only at hSw)
        go_simp
        all_goals with_reducible rfl
      try simp only [Act.put, List.getElem_toArray, List.getElem_cons_succ, List.getElem_cons_zero, List.setIfInBounds_toArray, List.set_cons_zero, List.set_cons_succ]
      refine wpAnyH_take (i := 5) (v := ?_) rfl (by kernel_rfl) (by kernel_rfl) (by kernel_rfl) (fun _ _ _ h => h) (Or.inl ⟨by rfl, ?_⟩) (by assumption) ?_
      rotate_left
      · intro w hSw
        (try dsimp only at hSw)
        go_simp
        all_goals with_reducible rfl
      try simp only [Act.put, List.getElem_toArray, List.getElem_cons_succ, List.getElem_cons_zero, List.setIfInBounds_toArray, List.set_cons_zero, List.set_cons_succ]
      refine wpAnyH_ready (rs := [6]) (by kernel_rfl) (by simp) ?_
      refine AllReadyH.cons rfl (fun K hK => ?_) AllReadyH.nil
      rw [if_pos (by rfl)]
      go_simp
      have S1 := SS.out _ ((Below.drew (Below.refl w2.heap.size w2)).alloc (Nat.le_refl _) (.cells #[.slice none 0 0, .int .i64 0] 111))
      refine hK.out _ _ ?_ (fun hHeld => ?_)
      · exact ⟨S1.1, S1.2.1, S1.2.2.1, S1.2.2.2.2⟩
      clear hK K
      try simp only [Act.put, List.getElem_toArray, List.getElem_cons_succ, List.getElem_cons_zero, List.setIfInBounds_toArray, List.set_cons_zero, List.set_cons_succ]
      refine wpAnyH_ready (rs := [7]) (by kernel_rfl) (by simp) ?_
      refine AllReadyH.cons rfl (fun K hK => ?_) AllReadyH.nil
      rw [if_pos (by rfl)]
      go_simp
      have S2 := SS.out _ HB
      refine hK.out _ _ ?_ (fun hHeld => ?_)
      · exact ⟨S2.1, S2.2.1, S2.2.2.1, S2.2.2.2.2⟩
      clear hK K
      try simp only [Act.put, List.getElem_toArray, List.getElem_cons_succ, List.getElem_cons_zero, List.setIfInBounds_toArray, List.set_cons_zero, List.set_cons_succ]
      refine wpAnyH_done (by kernel_rfl) ?_ _
      clear S0 S1 S2 hHeld
      have j1 := (HB.cell (p := ⟨bn, 0, none⟩) (block_lt_of_cell k1)).trans k1
      have j2 := (HB.cell (p := ⟨bd, 0, none⟩) (block_lt_of_cell k2)).trans k2
      have j3 := (HB.cell (p := ⟨bb, 0, none⟩) (block_lt_of_cell k3)).trans k3
      have hz3 : (w2.alloc (.cells #[.slice f.a f.n f.c, .int .i64 f.l] 111)).drew.heap[w2.heap.size]? = some (.cells #[.slice f.a f.n f.c, .int .i64 f.l] 111 (0, 0)) := heap_alloc_new w2 _
      have HB' := Lib.hid (And.intro HB hz3)
      have nb1 : bn ≠ w2.heap.size := by have : bn < w2.heap.size := block_lt_of_cell k1; omega
      have nb2 : bd ≠ w2.heap.size := by have : bd < w2.heap.size := block_lt_of_cell k2; omega
      clear k1 k2 k3 hz3 HB SS
      go_wp2_with (first
        | (at_builtin
           go_loud (
           refine wpList_append_sl rfl (.tmp 21) (.tmp 22) _ rfl 0 _ Tryz.underlying38 info_u8 _ g.bs rfl H2.out.2.2.1 _ a n c b rfl H2.out.2.2.2 (by omega) (Nat.zero_le _) ?_
           intro v1 w4 ho1 hg1 hat1
           obtain ⟨a1, c1, rfl, -⟩ := ho1.sl (fun c hc => by rcases List.mem_append.1 hc with hc | hc; exact f3 c hc; exact H2.out.2.2.2.byte c hc)
           have hob : ∀ k, ¬ O k → some k ≠ (Value.slice f.a f.n f.c).ownBlock := fun k hk e => hk (HH.out.2.2.1 k e.symm).1
           have q1 := hg1.cell j1 (hob bn hbn)
           have q2 := hg1.cell j2 (hob bd hbd)
           have z4 := (hg1.block w2.heap.size (by simp) (fun e => ob e.symm)).trans HB'.out.2
           have q4 := frozen_of_row w4 w2.heap.size 0 _ _ z4
           have q5 := (cell_of_row w4 w2.heap.size 0 _ _ _ z4).trans rfl
           have q6 := (cell_of_row w4 w2.heap.size 1 _ _ _ z4).trans rfl
           have H4 := Lib.hid (And.intro ho1 (And.intro hg1 hat1))
           clear ho1 hg1 hat1 j1 j2 j3 hob z4))
        | fail)
      obtain ⟨h2, hb2, _, sl3⟩ := H2.out
      obtain ⟨_, f6, f7, f8, hgw, f1, _, hsl⟩ := HH.out
      obtain ⟨ho1, hg1, hat1⟩ := H4.out
      have hO2 : ∀ k, O k → k < w2.heap.size := h2.lt
      have hlb : (g.bs ++ b).length = g.bs.length + n := by rw [List.length_append, hlen]
      have ho1 : OwnB w4 0 5 (.slice a1 (g.bs.length + n) c1) (g.bs ++ b) := by rw [← hlb]; simpa [hlen] using ho1
      have hat : ∀ k, (Value.slice a1 (g.bs.length + n) c1).ownBlock = some k → f.sl.ownBlock = some k ∨ k = w2.heap.size + 1 := fun k hk => by
        rcases hat1 with h | h
        · left
          have h' : (Value.slice a1 (g.bs ++ b).length c1).ownBlock = f.sl.ownBlock := h
          rw [hlb] at h'
          rw [← hk]
          exact h'.symm
        · right
          have : (Value.slice a1 (g.bs.length + n) c1).ownBlock = some (w2.heap.size + 1) := by simpa [hlen] using h
          rw [this] at hk
          injection hk with hk
          exact hk.symm
      have hz5 : w2.heap.size + 1 ≤ w4.heap.size := by have := hg1.size; simpa using this
      have hX : DskX (w4.setCell ⟨w2.heap.size, 0, none⟩ (.slice a1 (g.bs.length + n) c1)) dp mb C D room fuse fails O s.data.toList := by
        refine ((h2.x s.data.toList).below HB'.out.1).same (fun k hk hno => ?_) (by simp [World.setCell]; omega)
        have hkl := hO2 k hk
        refine (Below.heap_setCell _ ⟨w2.heap.size, 0, none⟩ _ k (by show k ≠ w2.heap.size; omega)).trans (hg1.block k (by simp; omega) (fun e => ?_))
        exact hno f (f8 k e.symm) e.symm
      have hne5 : (Value.slice a1 (g.bs.length + n) c1).ownBlock ≠ some w2.heap.size := fun e => by
        rcases hat _ e with h | h
        · exact ob h
        · omega
      have hO5 : OwnB (w4.setCell ⟨w2.heap.size, 0, none⟩ (.slice a1 (g.bs.length + n) c1)) 0 5 (.slice a1 (g.bs.length + n) c1) (g.bs ++ b) := World.ownsRow.kept ho1 (grownBy_setCell w4 ⟨w2.heap.size, 0, none⟩ (.slice a1 (g.bs.length + n) c1)) (.inr (fun e => hne5 e))
      have hB5 : But O w (w4.setCell ⟨w2.heap.size, 0, none⟩ (.slice a1 (g.bs.length + n) c1)) := by
        refine ((((But.of_below (O := O) hb2).trans (But.of_below (O := O) HB'.out.1) (fun _ hi => .inl hi)).trans (But.grown (O := O) hg1 (fun k hk => (f7 k hk).1)) (fun _ hi => .inl hi))).setCell (p := ⟨w2.heap.size, 0, none⟩) (.inr hb2.size) _
      have LY := Lib.hid (lay_any s hX hs ⟨a1, g.bs.length + n, c1, f.l⟩ ⟨g.bs ++ b, g.l⟩ f1 hO5
        (fun k f' blk hk hl hb he => by
          rcases hat blk hb with h | h
          · exact f6 k f' blk hk hl h he
          · have := hO2 blk (h2.files.fileO k f' blk hl he).1
            omega)
        (fun blk hb => by
          rcases hat blk hb with h | h
          · exact (f7 blk h).2
          · have h3 := hO2 mb h2.files.inO
            have h4 := hO2 dp h2.dpO
            omega) hgw)
      have HA := Lib.hid (And.intro hB5 (And.intro hat (And.intro f7 hb2.size)))
      clear h2 hb2 sl3 f6 f7 f8 hgw f1 hsl ho1 hg1 hat1 hO2 hlb hat hz5 hX hne5 hO5 hB5
      refine LY.out.mono ?_
      rintro e w6 hL
      have he := hL.1
      subst he
      have HL := Lib.hid hL
      clear hL LY
      go_wp2
      go_ret
      exact ⟨0, rfl, Left.laid HL.out HA.out.1 (fun k hk => by
        rcases HA.out.2.1 k hk with h | h
        · exact .inl (HA.out.2.2.1 k h).1
        · right
          have := HA.out.2.2.2
          omega)⟩
end
end
section
open Go.RowKit
open Go.Maps
attribute [local go_sem] Oper.semAt_some

theorem Sl.but {O : Nat → Prop} {w w' : World} {a : Option Addr} {n c : Nat} {bs : List Nat} (h : Sl w w.heap.size a n c bs) (hb : But O w w') (hfar : 0 < n → ∀ k o, a = some ⟨k, o, none⟩ → ¬ O k) : Sl w' w'.heap.size a n c bs :=
  ⟨h.length, h.le, h.max, h.byte, h.none_, fun hp => by
    obtain ⟨b, o, e, hlt, hc⟩ := h.at_ hp
    exact ⟨b, o, e, Nat.lt_of_lt_of_le hlt hb.size, fun k hk => (hb.cell hlt (hfar hp b o e)).trans (hc k hk)⟩⟩
theorem cell_box1 (w : World) (v : Value) (t : TypeId) : (w.alloc (.cells #[v] t)).cell? ⟨w.heap.size, 0, none⟩ = some v := (cell_of_row _ _ 0 _ _ _ (heap_alloc_new w _)).trans rfl
/-- Three boxes. -/
theorem box3 (w : World) (u v x : Value) (t1 t2 t3 : TypeId) :
    (((w.alloc (.cells #[u] t1)).alloc (.cells #[v] t2)).alloc (.cells #[x] t3)).cell? ⟨w.heap.size, 0, none⟩ = some u ∧
    (((w.alloc (.cells #[u] t1)).alloc (.cells #[v] t2)).alloc (.cells #[x] t3)).cell? ⟨w.heap.size + 1, 0, none⟩ = some v ∧
    (((w.alloc (.cells #[u] t1)).alloc (.cells #[v] t2)).alloc (.cells #[x] t3)).cell? ⟨w.heap.size + 1 + 1, 0, none⟩ = some x := by
  refine ⟨?_, ?_, ?_⟩
  · exact (World.cell?_alloc_past _ _ _ (by simp <;> omega)).trans ((World.cell?_alloc_past _ _ _ (by simp)).trans (cell_box1 w u t1))
  · have := cell_box1 (w.alloc (.cells #[u] t1)) v t2
    simp only [World.size_alloc] at this
    exact (World.cell?_alloc_past _ _ _ (by simp)).trans this
  · have := cell_box1 ((w.alloc (.cells #[u] t1)).alloc (.cells #[v] t2)) x t3
    simp only [World.size_alloc] at this
    exact this
theorem below3 (w : World) (o1 o2 o3 : Obj) : Below w.heap.size w (((w.alloc o1).alloc o2).alloc o3) := (((Below.refl _ _).alloc (Nat.le_refl _) _).alloc (by simp) _).alloc (by simp; omega) _

set_option maxRecDepth 100000 in
theorem write_any {w : World} {dp : Nat} {t : St} {O : Nat → Prop} (h : IsD w dp t O) (s : ByteArray) (hs : s.size ≤ 281474976710656) (a : Option Addr) (n c : Nat) (b : List Nat) (hsl : Sl w w.heap.size a n c b) (hn : n ≤ 140737488351232)
    (hfar : 0 < n → ∀ k o, a = some ⟨k, o, none⟩ → ¬ O k) :
    Calls Tryz.prog 63 #[.pointer (some ⟨dp, 0, none⟩), .string s, .slice a n c] w (Tells1 (Left w dp O (t.write s.data.toList b))) := by
  obtain ⟨mb, C, h⟩ := h
  have hb3 := below3 w (.cells #[.pointer (some ⟨dp, 0, none⟩)] 24) (.cells #[.string s] 9) (.cells #[.slice a n c] 38)
  obtain ⟨x1, x2, x3⟩ := box3 w (.pointer (some ⟨dp, 0, none⟩)) (.string s) (.slice a n c) 24 9 38
  have hO := h.lt
  have CC : Calls Tryz.prog 112 #[.pointer (some ⟨dp, 0, none⟩), .func (.func 116) #[] #[.pointer (some ⟨w.heap.size + 1, 0, none⟩), .pointer (some ⟨w.heap.size, 0, none⟩), .pointer (some ⟨w.heap.size + 1 + 1, 0, none⟩)]]
      (((w.alloc (.cells #[.pointer (some ⟨dp, 0, none⟩)] 24)).alloc (.cells #[.string s] 9)).alloc (.cells #[.slice a n c] 38)) (Tells1 (Left w dp O (t.write s.data.toList b))) := by
    have h3 := h.below hb3
    by_cases hf : t.fuse = 0
    · have e : t.write s.data.toList b = (42, t) := by unfold St.write; rw [if_pos hf]
      rw [e]
      refine (call_dead (hf ▸ h3) _).mono ?_
      rintro _ w' ⟨rfl, rfl⟩
      exact ⟨42, rfl, Left.same h3 (But.of_below (O := O) hb3)⟩
    · refine call_do h3 hf _ _ (fun x => by kernel_rfl) _ (fun w1 d1 bt => ?_)
      have e : t.write s.data.toList b = wrOf1 t.D t.room (burn t.fuse) t.fails s.data.toList b := by
        unfold St.write wrOf1
        rw [if_neg hf]
        rfl
      rw [e]
      have hno : ∀ k, w.heap.size ≤ k → ¬ O k := fun k hk ho => by have := hO k ho; omega
      refine (write1_any d1 s hs a n c b (((hsl.below hb3 (Nat.le_refl _)).more hb3.size).but bt hfar) hn hfar _ _ _ ?_ ?_ ?_ (hno _ (by omega)) (hno _ (Nat.le_refl _))).mono ?_
      · exact (bt.cell (by simp) (hno _ (by omega))).trans x2
      · exact (bt.cell (by simp; omega) (hno _ (Nat.le_refl _))).trans x1
      · exact (bt.cell (by simp) (hno _ (by omega))).trans x3
      · rintro _ w'' ⟨x, rfl, hL⟩
        exact ⟨x, rfl, hL.of ((But.of_below (O := O) hb3).trans bt (fun _ hi => .inl hi))⟩
  have HC := Lib.hid CC
  clear CC h hb3 hO x1 x2 x3 hsl hn hfar
  go_enter Tryz.func63, Tryz.ntmps63
  go_wp2_with fail
  refine HC.out.mono ?_
  rintro e w' ⟨x, rfl, hR⟩
  have HR := Lib.hid hR
  clear hR HC
  go_wp2
  go_ret
  exact ⟨x, rfl, HR.out⟩

def St.rename (t : St) (s tn : List UInt8) : Int × St :=
  if t.fuse = 0 then (42, t) else
  if nmOk tn = false then (1, t.burnt) else
  match fat t.D s with
  | none => (3, t.burnt)
  | some f => (0, { t.burnt with D := (t.D.del (.string s)).put (.string tn) (.held f) })
def rnOf1 (D : FS) (room : Nat) (fuse fails : Int) (s tn : List UInt8) : Int × St :=
  if nmOk tn = false then (1, ⟨D, room, fuse, fails⟩) else
  match fat D s with
  | none => (3, ⟨D, room, fuse, fails⟩)
  | some f => (0, ⟨(D.del (.string s)).put (.string tn) (.held f), room, fuse, fails⟩)
theorem good_rename {D : FS} {room : Nat} (h : Good D room) {s tn : List UInt8} {f : Fl} (hf : fat D s = some f) (hn : nmOk tn = true) : Good ((D.del (.string s)).put (.string tn) (.held f)) room := by
  obtain ⟨_, h1, h2, _⟩ := h.at_ hf
  have hl : look D (.string s) = some (.held f) := by rw [h.look_, hf]; rfl
  have ht := tot_del (canon_tidy h.canon) (.string s)
  rw [hl] at ht
  simp [lenOf] at ht
  have hz := size_del (k := .string s) (canon_tidy h.canon)
  rw [h.has_, hf] at hz
  simp at hz
  have h3 := h.tot_
  have h4 := h.size_
  exact (h.del s).put hn h1 h2 (.inr (by omega)) (by omega)
section
variable {w : World} {dp mb room : Nat} {C : DataW Fe} {D : FS} {fuse fails : Int} {O : Nat → Prop}
set_option linter.unusedSimpArgs false in
set_option maxRecDepth 100000 in
set_option maxHeartbeats 3200000 in
theorem rename1_any (h : DskC w dp mb C D room fuse fails O) (s : ByteArray) (hs : s.size ≤ 281474976710656) (tn : ByteArray) (ht : tn.size ≤ 281474976710656)
    (bt bd bn : Nat) (c0 : w.cell? ⟨bt, 0, none⟩ = some (.string tn)) (c2 : w.cell? ⟨bd, 0, none⟩ = some (.pointer (some ⟨dp, 0, none⟩))) (c1 : w.cell? ⟨bn, 0, none⟩ = some (.string s)) (hbt : ¬ O bt) (hbd : ¬ O bd) (hbn : ¬ O bn) :
    Calls Tryz.prog 113 #[.pointer (some ⟨bt, 0, none⟩), .pointer (some ⟨bd, 0, none⟩), .pointer (some ⟨bn, 0, none⟩)] w (Tells1 (Left w dp O (rnOf1 D room fuse fails s.data.toList tn.data.toList))) := by
  have IN := Lib.hid (isName_any tn (by unfold maxLen; omega))
  cases hnm : nmOk tn.data.toList with
  | false =>
    have hr : rnOf1 D room fuse fails s.data.toList tn.data.toList = (1, ⟨D, room, fuse, fails⟩) := by unfold rnOf1; rw [if_pos hnm]
    rw [hr]
    rw [hnm] at IN
    have HL := Lib.hid (Left.same (w := w) (x := 1) (t := ⟨D, room, fuse, fails⟩) h (But.refl O w))
    clear h hnm hr
    go_enter Tryz.func113, Tryz.ntmps113
    go_wp2_with (go_at_call 114; refine (IN.out _).mono ?_; rintro e w' ⟨rfl, rfl⟩)
    go_ret
    exact ⟨1, rfl, HL.out⟩
  | true =>
    rw [hnm] at IN
    have SS := Lib.hid (fun (w' : World) (hb : Below w.heap.size w w') => h.sees (s := s) (by unfold maxLen; omega) c2 c1 hb)
    have S0 := SS.out w.drew (Below.drew (Below.refl _ _))
    have hhas := h.files.has_ (.string s.data.toList)
    rw [h.good.has_] at hhas
    have hX : ∀ f : Fe, Below w.heap.size w (w.alloc (.cells #[.slice f.a f.n f.c, .int .i64 f.l] 111)).drew := fun f => Below.drew ((Below.refl _ _).alloc (Nat.le_refl _) _)
    have HX := Lib.hid hX
    cases hf : fat D s.data.toList with
    | none =>
      have hr : rnOf1 D room fuse fails s.data.toList tn.data.toList = (3, ⟨D, room, fuse, fails⟩) := by unfold rnOf1; rw [if_neg (by rw [hnm]; decide), hf]
      rw [hr]
      rw [hf] at hhas
      have HH := Lib.hid h
      unfold Sees at S0 SS
      rw [show has C (.string s.data.toList) = false from hhas] at S0 SS
      generalize cat C (.string s.data.toList) = f at *
      have HB := HX.out f
      clear h hnm hr hhas hX hf c1 c2
      go_enter Tryz.func113, Tryz.ntmps113
      go_wp2_with (first | (go_at_call 114; refine (IN.out _).mono ?_; rintro e w' ⟨rfl, rfl⟩) | fail)
      refine wp_region_held_drew (S := fun x => x.cell? ⟨dp, 0, none⟩ = some (.map (some mb)) ∧ x.cell? ⟨bd, 0, none⟩ = some (.pointer (some ⟨dp, 0, none⟩)) ∧ x.cell? ⟨bn, 0, none⟩ = some (.string s) ∧
        (Instr.lookup 72 (.map (some mb)) (.string s) true).run Tryz.prog x = .ok (.tuple #[.agg #[.slice f.a f.n f.c, .int .i64 f.l], .bool false]) x) (by kernel_rfl) ⟨S0.1, S0.2.1, S0.2.2.1, S0.2.2.2.1⟩ (fun hHeld => ?_)
      refine wpAnyH_take (i := 0) (v := ?_) rfl (by kernel_rfl) (by kernel_rfl) (by kernel_rfl) (fun _ _ _ h => h) (Or.inl ⟨by rfl, ?_⟩) (by assumption) ?_
      rotate_left
      · intro w hSw
        (try dsimp only at hSw)
        go_simp
        all_goals with_reducible rfl
      try simp only [Act.put, List.getElem_toArray, List.getElem_cons_succ, List.getElem_cons_zero, List.setIfInBounds_toArray, List.set_cons_zero, List.set_cons_succ]
      refine wpAnyH_take (i := 1) (v := ?_) rfl (by kernel_rfl) (by kernel_rfl) (by kernel_rfl) (fun _ _ _ h => h) (Or.inl ⟨by rfl, ?_⟩) (by assumption) ?_
      rotate_left
      · intro w hSw
        (try dsimp only at hSw)
        go_simp
        all_goals with_reducible rfl
      try simp only [Act.put, List.getElem_toArray, List.getElem_cons_succ, List.getElem_cons_zero, List.setIfInBounds_toArray, List.set_cons_zero, List.set_cons_succ]
      refine wpAnyH_take (i := 2) (v := ?_) rfl (by kernel_rfl) (by kernel_rfl) (by kernel_rfl) (fun _ _ _ h => h) (Or.inl ⟨by rfl, ?_⟩) (by assumption) ?_
      rotate_left
      · intro w hSw
        (try dsimp only at hSw)
        go_simp
        all_goals with_reducible rfl
      try simp only [Act.put, List.getElem_toArray, List.getElem_cons_succ, List.getElem_cons_zero, List.setIfInBounds_toArray, List.set_cons_zero, List.set_cons_succ]
      refine wpAnyH_take (i := 3) (v := ?_) rfl (by kernel_rfl) (by kernel_rfl) (by kernel_rfl) (fun _ _ _ h => h) (Or.inl ⟨by rfl, ?_⟩) (by assumption) ?_
      rotate_left
      · intro w hSw
        (try dsimp only at hSw)
        go_simp
        all_goals with_reducible rfl
      try simp only [Act.put, List.getElem_toArray, List.getElem_cons_succ, List.getElem_cons_zero, List.setIfInBounds_toArray, List.set_cons_zero, List.set_cons_succ]
      refine wpAnyH_take (i := 4) (v := ?_) rfl (by kernel_rfl) (by kernel_rfl) (by kernel_rfl) (fun _ _ _ h => h) (Or.inl ⟨by rfl, ?_⟩) (by assumption) ?_
      rotate_left
      · intro w hSw
        (try dsimp only at hSw)
        go_simp
        all_goals with_reducible rfl
      try simp only [Act.put, List.getElem_toArray, List.getElem_cons_succ, List.getElem_cons_zero, List.setIfInBounds_toArray, List.set_cons_zero, List.set_cons_succ]
      refine wpAnyH_take (i := 5) (v := ?_) rfl (by kernel_rfl) (by kernel_rfl) (by kernel_rfl) (fun _ _ _ h => h) (Or.inl ⟨by rfl, ?_⟩) (by assumption) ?_
      rotate_left
      · intro w hSw
        (try dsimp only at hSw)
        go_simp
        all_goals with_reducible rfl
      try simp only [Act.put, List.getElem_toArray, List.getElem_cons_succ, List.getElem_cons_zero, List.setIfInBounds_toArray, List.set_cons_zero, List.set_cons_succ]
      refine wpAnyH_take (i := 6) (v := ?_) rfl (by kernel_rfl) (by kernel_rfl) (by kernel_rfl) (fun _ _ _ h => h) (Or.inl ⟨by rfl, ?_⟩) (by assumption) ?_
      rotate_left
      · intro w hSw
        (try dsimp only at hSw)
        go_simp
        all_goals with_reducible rfl
      try simp only [Act.put, List.getElem_toArray, List.getElem_cons_succ, List.getElem_cons_zero, List.setIfInBounds_toArray, List.set_cons_zero, List.set_cons_succ]
      refine wpAnyH_take (i := 7) (v := ?_) rfl (by kernel_rfl) (by kernel_rfl) (by kernel_rfl) (fun _ _ _ h => h) (Or.inl ⟨by rfl, ?_⟩) (by assumption) ?_
      rotate_left
      · intro w hSw
        (try dsimp only at hSw)
        go_simp
        all_goals with_reducible rfl
      try simp only [Act.put, List.getElem_toArray, List.getElem_cons_succ, List.getElem_cons_zero, List.setIfInBounds_toArray, List.set_cons_zero, List.set_cons_succ]
      refine wpAnyH_take (i := 8) (v := ?_) rfl (by kernel_rfl) (by kernel_rfl) (by kernel_rfl) (fun _ _ _ h => h) (Or.inl ⟨by rfl, ?_⟩) (by assumption) ?_
      rotate_left
      · intro w hSw
        (try dsimp only at hSw)
        go_simp
        all_goals with_reducible rfl
      try simp only [Act.put, List.getElem_toArray, List.getElem_cons_succ, List.getElem_cons_zero, List.setIfInBounds_toArray, List.set_cons_zero, List.set_cons_succ]
      refine wpAnyH_ready (rs := [9]) (by kernel_rfl) (by simp) ?_
      refine AllReadyH.cons rfl (fun K hK => ?_) AllReadyH.nil
      rw [if_pos (by rfl)]
      go_simp
      have S1 := SS.out _ ((Below.drew (Below.refl w.heap.size w)).alloc (Nat.le_refl _) (.cells #[.slice none 0 0, .int .i64 0] 111))
      refine hK.out _ _ ?_ (fun hHeld => ?_)
      · exact ⟨S1.1, S1.2.1, S1.2.2.1, S1.2.2.2.1⟩
      clear hK K
      try simp only [Act.put, List.getElem_toArray, List.getElem_cons_succ, List.getElem_cons_zero, List.setIfInBounds_toArray, List.set_cons_zero, List.set_cons_succ]
      refine wpAnyH_ready (rs := [10]) (by kernel_rfl) (by simp) ?_
      refine AllReadyH.cons rfl (fun K hK => ?_) AllReadyH.nil
      rw [if_pos (by rfl)]
      go_simp
      have S2 := SS.out _ HB
      refine hK.out _ _ ?_ (fun hHeld => ?_)
      · exact ⟨S2.1, S2.2.1, S2.2.2.1, S2.2.2.2.1⟩
      clear hK K
      try simp only [Act.put, List.getElem_toArray, List.getElem_cons_succ, List.getElem_cons_zero, List.setIfInBounds_toArray, List.set_cons_zero, List.set_cons_succ]
      refine wpAnyH_take (i := 11) (v := ?_) rfl (by kernel_rfl) (by kernel_rfl) (by kernel_rfl) (fun _ _ _ h => h) (Or.inl ⟨by rfl, ?_⟩) (by assumption) ?_
      rotate_left
      · intro w hSw
        (try dsimp only at hSw)
        go_simp
        all_goals with_reducible rfl
      try simp only [Act.put, List.getElem_toArray, List.getElem_cons_succ, List.getElem_cons_zero, List.setIfInBounds_toArray, List.set_cons_zero, List.set_cons_succ]
      refine wpAnyH_done (by kernel_rfl) ?_ _
      clear S0 S1 hHeld
      go_wp2
      go_ret
      exact ⟨3, rfl, Left.same (t := ⟨D, room, fuse, fails⟩) (HH.out.below HB) (But.of_below HB)⟩
    | some g =>
      have hr : rnOf1 D room fuse fails s.data.toList tn.data.toList = (0, ⟨(D.del (.string s.data.toList)).put (.string tn.data.toList) (.held g), room, fuse, fails⟩) := by unfold rnOf1; rw [if_neg (by rw [hnm]; decide), hf]
      rw [hr]
      rw [hf] at hhas
      obtain ⟨fl, fl2, fl3⟩ := h.files.cat_ _ g hf
      have hgr := good_rename h.good hf hnm
      have hap : ∀ k f' b, look (C.del (.string s.data.toList)) k = some (.held f') → (cat C (.string s.data.toList)).sl.ownBlock = some b → f'.sl.ownBlock ≠ some b := fun k f' b hl hb he => by
        by_cases hk : k = .string s.data.toList
        · subst hk; rw [look_del_same] at hl; cases hl
        · rw [look_del_other hk] at hl
          exact hk (h.files.apart k _ f' _ b hl fl he hb)
      have hfo : ∀ b, (cat C (.string s.data.toList)).sl.ownBlock = some b → O b ∧ b ≠ mb ∧ b ≠ dp := fun b hb => h.files.fileO _ _ b fl hb
      have HH := Lib.hid (And.intro h (And.intro fl2 (And.intro fl3 (And.intro hgr (And.intro hap hfo)))))
      unfold Sees at S0 SS
      rw [show has C (.string s.data.toList) = true from hhas] at S0 SS
      generalize cat C (.string s.data.toList) = f at *
      have HB := HX.out f
      have HBd := Below.drew HB
      have h3 := h.below HBd
      have k0 := (HBd.cell (p := ⟨bt, 0, none⟩) (block_lt_of_cell c0)).trans c0
      have kb : (w.alloc (.cells #[.slice f.a f.n f.c, .int .i64 f.l] 111)).drew.drew.heap[w.heap.size]? = some (.cells #[.slice f.a f.n f.c, .int .i64 f.l] 111 (0, 0)) := heap_alloc_new w _
      obtain ⟨w4, hrun, hown4, ht4⟩ := h3.files.owns.drop law9 Tryz.underlying72 (Files.key (s := s) (by unfold maxLen; omega)) 0
      have hg4 := ht4.grown
      have h4 := h3.gone s.data.toList hg4 hown4
      have hmO := h.files.inO
      have hmlt := h.lt mb hmO
      have SS2 := SS.out _ HBd
      have nbt : bt ≠ mb := fun e => hbt (e ▸ hmO)
      have nbd : bd ≠ mb := fun e => hbd (e ▸ hmO)
      have nbn : bn ≠ mb := fun e => hbn (e ▸ hmO)
      have r0 := hg4.cell k0 (fun e => nbt (by injection e))
      have r1 := hg4.cell SS2.2.1 (fun e => nbd (by injection e))
      have r2 := hg4.cell SS2.2.2.1 (fun e => nbn (by injection e))
      have r3 := hg4.cell SS2.1 (fun e => h.ne (by injection e))
      have zb := (hg4.block w.heap.size (by simp) (fun e => by injection e with e; omega)).trans kb
      have r4 := (cell_of_row w4 w.heap.size 0 _ _ _ zb).trans rfl
      have r5 := (cell_of_row w4 w.heap.size 1 _ _ _ zb).trans rfl
      have hb4 : But O w w4 := (But.of_below (O := O) HBd).trans (But.grown (O := O) hg4 (fun k e => by injection e with e; subst e; exact hmO)) (fun _ hi => .inl hi)
      have own4 : OwnB w4 0 5 (.slice f.a f.n f.c) g.bs := World.ownsRow.kept (show OwnB (w.alloc (.cells #[.slice f.a f.n f.c, .int .i64 f.l] 111)).drew.drew 0 5 (.slice f.a f.n f.c) g.bs from fl3.below HBd) hg4 (.inr (fun e => (hfo mb e).2.1 rfl))
      have LY := Lib.hid (lay_any tn (h4.x tn.data.toList) ht f g fl2 own4 (fun k f' b _ hl hb => hap k f' b hl hb) (fun b hb => (hfo b hb).2) hgr)
      have HA := Lib.hid (And.intro hb4 hfo)
      clear h hnm hr hhas hX hf c1 c2 h3 h4 hown4 ht4 hg4 hmO hb4 own4 fl fl2 fl3 hgr hap hfo zb kb
      go_enter Tryz.func113, Tryz.ntmps113
      go_wp2_with (first | (go_at_call 114; refine (IN.out _).mono ?_; rintro e w' ⟨rfl, rfl⟩) | fail)
      refine wp_region_held_drew (S := fun x => x.cell? ⟨dp, 0, none⟩ = some (.map (some mb)) ∧ x.cell? ⟨bd, 0, none⟩ = some (.pointer (some ⟨dp, 0, none⟩)) ∧ x.cell? ⟨bn, 0, none⟩ = some (.string s) ∧
        (Instr.lookup 72 (.map (some mb)) (.string s) true).run Tryz.prog x = .ok (.tuple #[.agg #[.slice f.a f.n f.c, .int .i64 f.l], .bool true]) x) (by kernel_rfl) ⟨S0.1, S0.2.1, S0.2.2.1, S0.2.2.2.1⟩ (fun hHeld => ?_)
      refine wpAnyH_take (i := 0) (v := ?_) rfl (by kernel_rfl) (by kernel_rfl) (by kernel_rfl) (fun _ _ _ h => h) (Or.inl ⟨by rfl, ?_⟩) (by assumption) ?_
      rotate_left
      · intro w hSw
        (try dsimp only at hSw)
        go_simp
        all_goals with_reducible rfl
      try simp only [Act.put, List.getElem_toArray, List.getElem_cons_succ, List.getElem_cons_zero, List.setIfInBounds_toArray, List.set_cons_zero, List.set_cons_succ]
      refine wpAnyH_take (i := 1) (v := ?_) rfl (by kernel_rfl) (by kernel_rfl) (by kernel_rfl) (fun _ _ _ h => h) (Or.inl ⟨by rfl, ?_⟩) (by assumption) ?_
      rotate_left
      · intro w hSw
        (try dsimp only at hSw)
        go_simp
        all_goals with_reducible rfl
      try simp only [Act.put, List.getElem_toArray, List.getElem_cons_succ, List.getElem_cons_zero, List.setIfInBounds_toArray, List.set_cons_zero, List.set_cons_succ]
      refine wpAnyH_take (i := 2) (v := ?_) rfl (by kernel_rfl) (by kernel_rfl) (by kernel_rfl) (fun _ _ _ h => h) (Or.inl ⟨by rfl, ?_⟩) (by assumption) ?_
      rotate_left
      · intro w hSw
        (try dsimp only at hSw)
        go_simp
        all_goals with_reducible rfl
      try simp only [Act.put, List.getElem_toArray, List.getElem_cons_succ, List.getElem_cons_zero, List.setIfInBounds_toArray, List.set_cons_zero, List.set_cons_succ]
      refine wpAnyH_take (i := 3) (v := ?_) rfl (by kernel_rfl) (by kernel_rfl) (by kernel_rfl) (fun _ _ _ h => h) (Or.inl ⟨by rfl, ?_⟩) (by assumption) ?_
      rotate_left
      · intro w hSw
        (try dsimp only at hSw)
        go_simp
        all_goals with_reducible rfl
      try simp only [Act.put, List.getElem_toArray, List.getElem_cons_succ, List.getElem_cons_zero, List.setIfInBounds_toArray, List.set_cons_zero, List.set_cons_succ]
      refine wpAnyH_take (i := 4) (v := ?_) rfl (by kernel_rfl) (by kernel_rfl) (by kernel_rfl) (fun _ _ _ h => h) (Or.inl ⟨by rfl, ?_⟩) (by assumption) ?_
      rotate_left
      · intro w hSw
        (try dsimp only at hSw)
        go_simp
        all_goals with_reducible rfl
      try simp only [Act.put, List.getElem_toArray, List.getElem_cons_succ, List.getElem_cons_zero, List.setIfInBounds_toArray, List.set_cons_zero, List.set_cons_succ]
      refine wpAnyH_take (i := 5) (v := ?_) rfl (by kernel_rfl) (by kernel_rfl) (by kernel_rfl) (fun _ _ _ h => h) (Or.inl ⟨by rfl, ?_⟩) (by assumption) ?_
      rotate_left
      · intro w hSw
        (try dsimp only at hSw)
        go_simp
        all_goals with_reducible rfl
      try simp only [Act.put, List.getElem_toArray, List.getElem_cons_succ, List.getElem_cons_zero, List.setIfInBounds_toArray, List.set_cons_zero, List.set_cons_succ]
      refine wpAnyH_take (i := 6) (v := ?_) rfl (by kernel_rfl) (by kernel_rfl) (by kernel_rfl) (fun _ _ _ h => h) (Or.inl ⟨by rfl, ?_⟩) (by assumption) ?_
      rotate_left
      · intro w hSw
        (try dsimp only at hSw)
        go_simp
        all_goals with_reducible rfl
      try simp only [Act.put, List.getElem_toArray, List.getElem_cons_succ, List.getElem_cons_zero, List.setIfInBounds_toArray, List.set_cons_zero, List.set_cons_succ]
      refine wpAnyH_take (i := 7) (v := ?_) rfl (by kernel_rfl) (by kernel_rfl) (by kernel_rfl) (fun _ _ _ h => h) (Or.inl ⟨by rfl, ?_⟩) (by assumption) ?_
      rotate_left
      · intro w hSw
        (try dsimp only at hSw)
        go_simp
        all_goals with_reducible rfl
      try simp only [Act.put, List.getElem_toArray, List.getElem_cons_succ, List.getElem_cons_zero, List.setIfInBounds_toArray, List.set_cons_zero, List.set_cons_succ]
      refine wpAnyH_take (i := 8) (v := ?_) rfl (by kernel_rfl) (by kernel_rfl) (by kernel_rfl) (fun _ _ _ h => h) (Or.inl ⟨by rfl, ?_⟩) (by assumption) ?_
      rotate_left
      · intro w hSw
        (try dsimp only at hSw)
        go_simp
        all_goals with_reducible rfl
      try simp only [Act.put, List.getElem_toArray, List.getElem_cons_succ, List.getElem_cons_zero, List.setIfInBounds_toArray, List.set_cons_zero, List.set_cons_succ]
      refine wpAnyH_ready (rs := [9]) (by kernel_rfl) (by simp) ?_
      refine AllReadyH.cons rfl (fun K hK => ?_) AllReadyH.nil
      rw [if_pos (by rfl)]
      go_simp
      have S1 := SS.out _ ((Below.drew (Below.refl w.heap.size w)).alloc (Nat.le_refl _) (.cells #[.slice none 0 0, .int .i64 0] 111))
      refine hK.out _ _ ?_ (fun hHeld => ?_)
      · exact ⟨S1.1, S1.2.1, S1.2.2.1, S1.2.2.2.1⟩
      clear hK K
      try simp only [Act.put, List.getElem_toArray, List.getElem_cons_succ, List.getElem_cons_zero, List.setIfInBounds_toArray, List.set_cons_zero, List.set_cons_succ]
      refine wpAnyH_ready (rs := [10]) (by kernel_rfl) (by simp) ?_
      refine AllReadyH.cons rfl (fun K hK => ?_) AllReadyH.nil
      rw [if_pos (by rfl)]
      go_simp
      have S2 := SS.out _ HB
      refine hK.out _ _ ?_ (fun hHeld => ?_)
      · exact ⟨S2.1, S2.2.1, S2.2.2.1, S2.2.2.2.1⟩
      clear hK K
      try simp only [Act.put, List.getElem_toArray, List.getElem_cons_succ, List.getElem_cons_zero, List.setIfInBounds_toArray, List.set_cons_zero, List.set_cons_succ]
      refine wpAnyH_take (i := 11) (v := ?_) rfl (by kernel_rfl) (by kernel_rfl) (by kernel_rfl) (fun _ _ _ h => h) (Or.inl ⟨by rfl, ?_⟩) (by assumption) ?_
      rotate_left
      · intro w hSw
        (try dsimp only at hSw)
        go_simp
        all_goals with_reducible rfl
      try simp only [Act.put, List.getElem_toArray, List.getElem_cons_succ, List.getElem_cons_zero, List.setIfInBounds_toArray, List.set_cons_zero, List.set_cons_succ]
      refine wpAnyH_done (by kernel_rfl) ?_ _
      clear S0 S1 hHeld
      go_wp2_with fail
      refine wp_region_held_drew (S := fun x => x.cell? ⟨dp, 0, none⟩ = some (.map (some mb)) ∧ x.cell? ⟨bd, 0, none⟩ = some (.pointer (some ⟨dp, 0, none⟩)) ∧ x.cell? ⟨bn, 0, none⟩ = some (.string s)) (by kernel_rfl) ⟨SS2.1, SS2.2.1, SS2.2.2.1⟩ (fun hHeld => ?_)
      refine wpAnyH_take (i := 0) (v := ?_) rfl (by kernel_rfl) (by kernel_rfl) (by kernel_rfl) (fun _ _ _ h => h) (Or.inl ⟨by rfl, ?_⟩) (by assumption) ?_
      rotate_left
      · intro w hSw
        (try dsimp only at hSw)
        go_simp
        all_goals with_reducible rfl
      try simp only [Act.put, List.getElem_toArray, List.getElem_cons_succ, List.getElem_cons_zero, List.setIfInBounds_toArray, List.set_cons_zero, List.set_cons_succ]
      refine wpAnyH_take (i := 1) (v := ?_) rfl (by kernel_rfl) (by kernel_rfl) (by kernel_rfl) (fun _ _ _ h => h) (Or.inl ⟨by rfl, ?_⟩) (by assumption) ?_
      rotate_left
      · intro w hSw
        (try dsimp only at hSw)
        go_simp
        all_goals with_reducible rfl
      try simp only [Act.put, List.getElem_toArray, List.getElem_cons_succ, List.getElem_cons_zero, List.setIfInBounds_toArray, List.set_cons_zero, List.set_cons_succ]
      refine wpAnyH_take (i := 2) (v := ?_) rfl (by kernel_rfl) (by kernel_rfl) (by kernel_rfl) (fun _ _ _ h => h) (Or.inl ⟨by rfl, ?_⟩) (by assumption) ?_
      rotate_left
      · intro w hSw
        (try dsimp only at hSw)
        go_simp
        all_goals with_reducible rfl
      try simp only [Act.put, List.getElem_toArray, List.getElem_cons_succ, List.getElem_cons_zero, List.setIfInBounds_toArray, List.set_cons_zero, List.set_cons_succ]
      refine wpAnyH_take (i := 3) (v := ?_) rfl (by kernel_rfl) (by kernel_rfl) (by kernel_rfl) (fun _ _ _ h => h) (Or.inl ⟨by rfl, ?_⟩) (by assumption) ?_
      rotate_left
      · intro w hSw
        (try dsimp only at hSw)
        go_simp
        all_goals with_reducible rfl
      try simp only [Act.put, List.getElem_toArray, List.getElem_cons_succ, List.getElem_cons_zero, List.setIfInBounds_toArray, List.set_cons_zero, List.set_cons_succ]
      refine wpAnyH_take (i := 4) (v := ?_) rfl (by kernel_rfl) (by kernel_rfl) (by kernel_rfl) (fun _ _ _ h => h) (Or.inl ⟨by rfl, ?_⟩) (by assumption) ?_
      rotate_left
      · intro w hSw
        (try dsimp only at hSw)
        go_simp
        all_goals with_reducible rfl
      try simp only [Act.put, List.getElem_toArray, List.getElem_cons_succ, List.getElem_cons_zero, List.setIfInBounds_toArray, List.set_cons_zero, List.set_cons_succ]
      refine wpAnyH_ready (rs := [5]) (by kernel_rfl) (by simp) ?_
      refine AllReadyH.cons rfl (fun K hK => ?_) AllReadyH.nil
      rw [if_pos (by rfl)]
      go_simp
      refine hK.out _ _ ?_ (fun hHeld => ?_)
      · exact ⟨r3, r1, r2⟩
      clear hK K
      try simp only [Act.put, List.getElem_toArray, List.getElem_cons_succ, List.getElem_cons_zero, List.setIfInBounds_toArray, List.set_cons_zero, List.set_cons_succ]
      refine wpAnyH_done (by kernel_rfl) ?_ _
      clear hHeld SS2 SS HX
      go_wp2_with fail
      refine LY.out.mono ?_
      rintro e w6 hL
      have he := hL.1
      subst he
      have HL := Lib.hid hL
      clear hL LY
      go_wp2
      go_ret
      exact ⟨0, rfl, Left.laid HL.out HA.out.1 (fun k hk => .inl (HA.out.2 k hk).1)⟩
end
end
section
open Go.RowKit Go.Sort
open Go.Maps
attribute [local go_sem] Oper.semAt_some

set_option maxRecDepth 100000 in
theorem rename_any {w : World} {dp : Nat} {t : St} {O : Nat → Prop} (h : IsD w dp t O) (s : ByteArray) (hs : s.size ≤ 281474976710656) (tn : ByteArray) (ht : tn.size ≤ 281474976710656) :
    Calls Tryz.prog 61 #[.pointer (some ⟨dp, 0, none⟩), .string s, .string tn] w (Tells1 (Left w dp O (t.rename s.data.toList tn.data.toList))) := by
  obtain ⟨mb, C, h⟩ := h
  have hb3 := below3 w (.cells #[.pointer (some ⟨dp, 0, none⟩)] 24) (.cells #[.string s] 9) (.cells #[.string tn] 9)
  obtain ⟨x1, x2, x3⟩ := box3 w (.pointer (some ⟨dp, 0, none⟩)) (.string s) (.string tn) 24 9 9
  have hO := h.lt
  have CC : Calls Tryz.prog 112 #[.pointer (some ⟨dp, 0, none⟩), .func (.func 113) #[] #[.pointer (some ⟨w.heap.size + 1 + 1, 0, none⟩), .pointer (some ⟨w.heap.size, 0, none⟩), .pointer (some ⟨w.heap.size + 1, 0, none⟩)]]
      (((w.alloc (.cells #[.pointer (some ⟨dp, 0, none⟩)] 24)).alloc (.cells #[.string s] 9)).alloc (.cells #[.string tn] 9)) (Tells1 (Left w dp O (t.rename s.data.toList tn.data.toList))) := by
    have h3 := h.below hb3
    by_cases hf : t.fuse = 0
    · have e : t.rename s.data.toList tn.data.toList = (42, t) := by unfold St.rename; rw [if_pos hf]
      rw [e]
      refine (call_dead (hf ▸ h3) _).mono ?_
      rintro _ w' ⟨rfl, rfl⟩
      exact ⟨42, rfl, Left.same h3 (But.of_below (O := O) hb3)⟩
    · refine call_do h3 hf _ _ (fun x => by kernel_rfl) _ (fun w1 d1 bt => ?_)
      have e : t.rename s.data.toList tn.data.toList = rnOf1 t.D t.room (burn t.fuse) t.fails s.data.toList tn.data.toList := by
        unfold St.rename rnOf1
        rw [if_neg hf]
        rfl
      rw [e]
      have hno : ∀ k, w.heap.size ≤ k → ¬ O k := fun k hk ho => by have := hO k ho; omega
      refine (rename1_any d1 s hs tn ht _ _ _ ?_ ?_ ?_ (hno _ (by omega)) (hno _ (Nat.le_refl _)) (hno _ (by omega))).mono ?_
      · exact (bt.cell (by simp) (hno _ (by omega))).trans x3
      · exact (bt.cell (by simp; omega) (hno _ (Nat.le_refl _))).trans x1
      · exact (bt.cell (by simp) (hno _ (by omega))).trans x2
      · rintro _ w'' ⟨x, rfl, hL⟩
        exact ⟨x, rfl, hL.of ((But.of_below (O := O) hb3).trans bt (fun _ hi => .inl hi))⟩
  have HC := Lib.hid CC
  clear CC h hb3 hO x1 x2 x3
  go_enter Tryz.func61, Tryz.ntmps61
  go_wp2_with fail
  refine HC.out.mono ?_
  rintro e w' ⟨x, rfl, hR⟩
  have HR := Lib.hid hR
  clear hR HC
  go_wp2
  go_ret
  exact ⟨x, rfl, HR.out⟩

theorem before_lt : ∀ {a b : List UInt8}, bytesBefore a b = true → a < b
  | [], [], h => by cases h
  | [], _ :: _, _ => List.Lex.nil
  | _ :: _, [], h => by cases h
  | x :: r, y :: s, h => by
    simp only [bytesBefore, Bool.or_eq_true, Bool.and_eq_true, decide_eq_true_eq, beq_iff_eq] at h
    rcases h with h | ⟨rfl, h⟩
    · exact List.Lex.rel h
    · exact List.Lex.cons (before_lt h)
theorem names_sorted {D : FS} {room : Nat} (h : Good D room) : (strKeys D).Pairwise (fun a b => leB a b = true) := by
  rw [strKeys_keysL, List.pairwise_map]
  refine (keysL_sorted h.canon).imp_of_mem (fun {a b} ha hb hab => ?_)
  obtain ⟨x, rfl⟩ := h.strs a ((keysL_mem h.canon a).1 ha)
  obtain ⟨y, rfl⟩ := h.strs b ((keysL_mem h.canon b).1 hb)
  simp only [leB, decide_eq_true_eq]
  exact List.le_of_lt (before_lt hab)
theorem names_sort {D : FS} {room : Nat} (h : Good D room) : (strKeys D).mergeSort leB = strKeys D := List.mergeSort_of_pairwise (names_sorted h)
theorem size_names (D : FS) : (strKeys D).length = size D := by rw [strKeys_keysL, List.length_map, size_keysL]
theorem info_str : (Tryz.prog.info? 9).map (fun i => (i.zero, i.size, i.bytes)) = some (some (.string ⟨#[]⟩), 1, 16) := by kernel_rfl
/-- Names that a call has made anew. -/
def NewNames (w : World) (l : List (List UInt8)) (e : Ending) (w' : World) : Prop :=
  ∃ g c, e = .returned (.slice (some ⟨g, 0, none⟩) l.length c) ∧ w'.ownsRow w.heap.size 9 1 (.slice (some ⟨g, 0, none⟩) l.length c) l.length (l.map Go.Proofs.encStr) ∧ Below w.heap.size w w'
section
variable {w : World} {dp mb room : Nat} {C : DataW Fe} {D : FS} {fuse fails : Int} {O : Nat → Prop}
set_option maxRecDepth 100000 in
set_option maxHeartbeats 1600000 in
theorem list_any (h : DskC w dp mb C D room fuse fails O) : Calls Tryz.prog 28 #[.pointer (some ⟨dp, 0, none⟩)] w (NewNames w (strKeys D)) := by
  obtain ⟨i0, hi, hz0, hz1, hz2⟩ := info_parts info_str
  have c0 := h.cell.1
  have hsz := h.good.size_
  have hlen := fun (ty : TypeId) => h.files.run_len w rfl h.good.canon ty
  have hCD : Hid (strKeys C = strKeys D) := by show _ = _; rw [strKeys_keysL, strKeys_keysL, h.files.keys_ h.good.canon]
  have hzC : Hid (size C = size D) := h.files.size_ h.good.canon
  have HN := Lib.hid (And.intro (names_sort h.good) (size_names D))
  have hmb := h.lt mb h.files.inO
  have hdp := h.lt dp h.dpO
  have hown := h.files.owns
  have LW := Lib.hid law9
  clear h
  go_enter Tryz.func28, Tryz.ntmps28
  go_wp2_with (first
    | (at_make; refine wpList_make_own _ rfl _ _ 66 rfl w.heap.size 9 i0 (.string ⟨#[]⟩) 1 Tryz.underlying66 hi hz0 hz1 _ _ _ (size D) rfl rfl rfl (by rw [hz2]; omega) (by unfold maxLen; omega) (Nat.le_refl _) ?_; intro w1 hrow1 hg1; have c1 := hg1.cell c0 (by simp))
    | (at_range; refine wpList_range_own _ rfl _ 72 rfl 9 111 LW.out Tryz.underlying72 rdF mb (size C) C rfl (hown.kept hg1 (by simp)) ?_; intro w0 hrg0 hg0 hs0)
    | fail)
  go_frame
  go_loopw [3] (fun v wr => ∃ (left : Lit → Bool) (cnt : Nat) (ss : List (List UInt8)), wr.ranges Tryz.prog 9 rdF mb w1.heap.size (size C) C left cnt ∧ ss.length + cnt ≤ size C ∧
      wr.ownsRow w.heap.size 9 1 v ss.length (ss.map Go.Proofs.encStr) ∧ v ≠ .slice none 0 0 ∧ Collected C left ss ∧ Below w.heap.size w wr)
    (fun _ wr => wr.rangeLeft mb w1.heap.size)
  case atStart =>
    exact ⟨_, _, [], hrg0, by simp, hrow1.kept hg0 (Or.inr (by simp [Value.ownBlock])), by simp, Collected.start C,
      ((Below.refl _ _).grown hg1 (Nat.le_refl _) (fun j hj => by cases hj)).grown hg0 hg1.size (fun j hj => by cases hj)⟩
  case round =>
    obtain ⟨left, cnt, ss, hrg, hcs, hrow, hnn, hC, hnx⟩ := hrel
    go_wp2_with (first
      | (at_next; refine wpList_next_ranges _ rfl _ rfl 9 LW.out rdF Go.Proofs.encStr (fun f : Fe => .agg #[.slice f.a f.n f.c, .int .i64 f.l]) (fun key kl hk => by obtain ⟨x, hx, _⟩ := Maps.keyOf_str Tryz.underlying9 hk; exact ⟨x, hx⟩) (fun v y hv => by obtain ⟨f, rfl, _⟩ := rdF_inv hv; exact ⟨f, rfl⟩) mb w1.heap.size (size C) C left cnt rfl hrg ?_ ?_)
      | fail)
    · intro hc0 hl0
      rcases hrow.2 with ⟨hnil, _⟩ | ⟨g, cap, cur, rfl, hbase, hb, h1, h2, h3, h4⟩
      · exact absurd hnil hnn
      have hH : Holds Go.Proofs.encStr wr g 0 ss.toArray := holds_of_block hb (by simpa using h4)
      have hgl : g < wr.heap.size := (Array.getElem?_eq_some_iff.1 hb).1
      have hc := Lib.hid (Tryz.slices_Sort_string g 0 cap ss wr hH hgl (by have := hzC.out; omega))
      have hpm := hC.perm hrg.owns LW.out Tryz.underlying9 hl0
      have hms : ss.mergeSort leB = strKeys D := by rw [mergeSort_of_perm hpm, hCD.out]; exact HN.out.1
      have hln : ss.length = (strKeys D).length := by rw [← hms]; simp
      have hor := fun (n : Nat) (os : Array Obj) => ownsRow_sorted (w := wr) (n := n) (os := os) (ss := ss) (ts := ss.mergeSort fun x y => decide (x ≤ y)) (by simp) hbase hb h1 h2 h3
      have hgr := fun (n : Nat) (os : Array Obj) => grownBy_sorted (w := wr) (g := g) (n := n) (os := os) (ss.mergeSort fun x y => decide (x ≤ y)).toArray
      have HE := Lib.hid (And.intro hms (And.intro hln (And.intro hor (And.intro hgr (And.intro hnx hbase)))))
      clear hms hln hor hgr hnx hH hrg hcs hrow hC hpm hl0 hc0 hb h1 h2 h3 h4 hbase
      go_wp2_with fail
      refine hc.out.mono ?_
      rintro e w' ⟨rfl, nn, os, hw'⟩
      have HW := Lib.hid hw'
      clear hw' hc
      go_wp2
      go_ret
      obtain ⟨hms, hln, hor, hgr, hnx, hbase⟩ := HE.out
      have e1 := HW.out
      subst e1
      refine ⟨g, cap, by rw [← hln]; rfl, ?_, hnx.grown (hgr nn os) hnx.size (fun j hj => by cases hj; exact hbase)⟩
      have := hor nn os
      rw [← hln, ← hms]
      exact this
    · intro x f kl yd yp w2 cnt2 hkey hlk hv hat hrg2 hlt hg2 hs2 hen
      obtain ⟨x', ex, rfl, _⟩ := Maps.keyOf_str Tryz.underlying9 hkey
      obtain rfl : x = x' := encStr_inj ex
      have hrow2 := hrow.kept hg2 (Or.inr (row_ne_iter hrow hrg).symm)
      have hn2 : Below w.heap.size w w2 := hnx.grown hg2 hnx.size (fun j hj => by cases hj; exact hg1.size)
      have HH := Lib.hid (And.intro hrg (And.intro hC (And.intro hn2 (And.intro hlk (And.intro hat hlt)))))
      clear hs2 hkey hv hlk hat hnx hC hg2
      go_wp2_with (first
        | (at_builtin; refine wpList_append_own _ rfl _ _ 66 rfl w.heap.size 9 i0 (.string ⟨#[]⟩) 1 16 Tryz.underlying66 hi hz0 hz1 hz2 rfl (by decide) _ _ _ rfl (hrow2.alloc _) ⟨w2.heap.size, 0, none⟩ 1 1 [Go.Proofs.encStr x] rfl rfl (cell_one_new _ _ _) (by simp [Value.oneCell', Go.Proofs.encStr]) (by have := hzC.out; unfold maxLen at *; omega) (by have := hzC.out; omega) (by have := hn2.size; simp; omega) ?_; intro v' w3 hown' hg3 hnil3; go_frame)
        | fail)
      obtain ⟨hrg, hC, hn2, hlk, hat, hlt⟩ := HH.out
      have hrg3 := (hrg2.alloc (.cells #[Go.Proofs.encStr x] 9)).kept hg3 (row_ne_low hrow2 hmb) (row_ne_iter hrow2 hrg2)
      go_roundw
      case rel =>
        refine ⟨_, cnt2, ss ++ [x], hrg3, by simp; omega, by simpa using hown', fun hv' => by have := (hnil3.1 hv').2; omega, hC.step hlk hat, ?_⟩
        exact (hn2.alloc hn2.size _).grown hg3 (by have := hn2.size; simp; omega) (fun j hj => (hrow2.lt j hj).1)
      case measure => rw [hrg3.left_eq, hrg.left_eq]; exact hlt
end
end
end
end Go.Proofs.YtechgmohdabkpaaGreatDoor
