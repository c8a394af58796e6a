/- A byte takes one cell. Contracts of the program's disk: Fuse, Fail, Synced, Used, R. The cells of a row of numbers. Contracts of the program's disk: kept; what Crash leaves. Arguments that came in, opened: operations of a disk; ints. Names, held against one another. Rows of numbers: append of any row to numbers of the call's . The reference's disk in memory: a row of files, by their nam. -/
import Derived.Test.YtamblmoedommfaaGreatDoorSqa
import Derived.Test.YtamblmoedommfaaGreatDoorProg
import Derived.Test.YtamblmoedommfaaGreatDoorChecked
import Derived.Sort.OwnSorted
import Derived.Lib.SliceRun
import Derived.StillTailTactics
import Derived.SizedLaws
import Derived.Lib.SmallJoins
import Derived.ChangeSlices
import Derived.ProofKit
import Derived.OpenShut
import Derived.Deep.Slices
import Derived.Maps.AppendAt
import Derived.Laws.AppendOwnNone
import Derived.Deep.CutRange
import Derived.Laws.OwnMore
namespace Go.Proofs.YtamblmoedommfaaGreatDoor
set_option maxRecDepth 100000
set_option maxHeartbeats 40000000
set_option linter.unusedVariables false
set_option linter.unusedSimpArgs false
set_option linter.unusedSectionVars false
section
open Go.RowKit
theorem info_u8 : (Tryz.prog.info? 5).map (fun i => (i.zero, i.size, i.bytes)) = some (some (.int .u8 0), 1, 1) := by kernel_rfl
end
section
section
open Go.RowKit
open Go.Maps
attribute [local go_sem] Oper.semAt_some
theorem max2_any (x y : Int) (w : World) :
 (Builtin.max_ #[3, 3] 3 #[.int .i64 x, .int .i64 y]).run Tryz.prog w = .ok (.int .i64 (max x y)) w := by
 have e1 : (if x < y then y else x) = max x y := by omega
 simp only [Builtin.max_, List.foldlM, Builtin.max2, Sem.run_bind, Sem.run_pure, Result.andThen_ok]
 rw [e1]
theorem min2i_any (x y : Int) (w : World) :
 (Builtin.min_ #[3, 3] 3 #[.int .i64 x, .int .i64 y]).run Tryz.prog w = .ok (.int .i64 (min x y)) w := by
 have e1 : (if y < x then y else x) = min x y := by omega
 simp only [Builtin.min_, List.foldlM, Builtin.min2, Sem.run_bind, Sem.run_pure, Result.andThen_ok]
 rw [e1]
def St.fuse_ (t : St) (n : Int) : St := { t with fuse := max n (-1) }
def St.fail_ (t : St) (n : Int) : St := { t with fails := max n 0 }
def Turns (w : World) (dp : Nat) (O : Nat → Prop) (t : St) (e : Ending) (w' : World) : Prop := e = .returned (.tuple #[]) ∧ IsD w' dp t O ∧ But O w w'
theorem fuse_any {w : World} {dp : Nat} {t : St} {O : Nat → Prop} (h : IsD w dp t O) (n : Int) (hn : n ≤ 9223372036854775807) :
 Calls Tryz.prog 41 #[.pointer (some ⟨dp, 0, none⟩), .int .i64 n] w (Turns w dp O (t.fuse_ n)) := by
 obtain ⟨mb, C, h⟩ := h
 have c2 := h.cell.2.2.1
 have z2 := h.cell.2.2.2.2 2
 have hm := fun (x : World) => max2_any n (-1) x
 have h2 : DskC (w.setCell ⟨dp, 2, none⟩ (.int .i64 (max n (-1)))) dp mb C t.D t.room (max n (-1)) t.fails O := h.set_ 2 _ rfl (by omega) h.fails_
 have H := Qh (Qa h2 ((But.refl O w).setCell (p := ⟨dp, 2, none⟩) (.inl h.dpO) (.int .i64 (max n (-1)))))
 have HF : Hid (t.fuse_ n = ⟨t.D, t.room, max n (-1), t.fails⟩) := rfl
 clear h h2 hn
 generalize max n (-1) = m at *
 go_enter Tryz.func41, Tryz.ntmps41
 go_wp2
 go_end0
 exact ⟨rfl, by rw [HF.out]; exact ⟨mb, C, H.out.1⟩, H.out.2⟩
theorem fail_any {w : World} {dp : Nat} {t : St} {O : Nat → Prop} (h : IsD w dp t O) (n : Int) (hn : n ≤ 9223372036854775807) :
 Calls Tryz.prog 42 #[.pointer (some ⟨dp, 0, none⟩), .int .i64 n] w (Turns w dp O (t.fail_ n)) := by
 obtain ⟨mb, C, h⟩ := h
 have c2 := h.cell.2.2.2.1
 have z2 := h.cell.2.2.2.2 3
 have hm := fun (x : World) => max2_any n 0 x
 have h2 : DskC (w.setCell ⟨dp, 3, none⟩ (.int .i64 (max n 0))) dp mb C t.D t.room t.fuse (max n 0) O := h.set_ 3 _ rfl h.fuse_ (by omega)
 have H := Qh (Qa h2 ((But.refl O w).setCell (p := ⟨dp, 3, none⟩) (.inl h.dpO) (.int .i64 (max n 0))))
 have HF : Hid (t.fail_ n = ⟨t.D, t.room, t.fuse, max n 0⟩) := rfl
 clear h h2 hn
 generalize max n 0 = m at *
 go_enter Tryz.func42, Tryz.ntmps42
 go_wp2
 go_end0
 exact ⟨rfl, by rw [HF.out]; exact ⟨mb, C, H.out.1⟩, H.out.2⟩
def sumL (left : Lit → Bool) : FS → Nat
 | .map es => (es.map fun p => if left p.1 = true then lenOf p.2 else 0).sum
 | _ => 0
theorem sumL_all {D : FS} (hD : Canon D) : sumL (has D) D = tot D := by
 obtain ⟨es, rfl, _, hk⟩ := hD
 show (es.map fun p => if has (.map es) p.1 = true then lenOf p.2 else 0).sum = (es.map fun p => lenOf p.2).sum
 congr 1
 apply List.map_congr_left
 intro p hp
 rw [if_pos (show has (.map es) p.1 = true from List.any_eq_true.2 ⟨p, hp, WideAt.sameKey_self (hk p hp)⟩)]
theorem sumL_none {D : FS} {left : Lit → Bool} (h : ∀ k, left k = false) : sumL left D = 0 := by
 cases D <;> try rfl
 rename_i es
 show (es.map fun p => if left p.1 = true then lenOf p.2 else 0).sum = 0
 induction es with
 | nil => rfl
 | cons x r ih => rw [List.map_cons, List.sum_cons, ih, h x.1]; rfl
theorem sumL_step {D : FS} (hD : Canon D) {left : Lit → Bool} {kl : Lit} {d : DataW Fl} (hl : look D kl = some d) (hlk : left kl = true) : sumL (fun z => left z && !z.sameKey kl) D + lenOf d = sumL left D := by
 obtain ⟨es, rfl, h1, hk⟩ := hD
 have hp := apart_of_rising h1
 clear h1
 show (es.map fun p => if (left p.1 && !p.1.sameKey kl) = true then lenOf p.2 else 0).sum + lenOf d = (es.map fun p => if left p.1 = true then lenOf p.2 else 0).sum
 change (es.find? fun p => p.1.sameKey kl).map (·.2) = some d at hl
 induction es with
 | nil => cases hl
 | cons x r ih =>
  obtain ⟨a1, a2⟩ := List.pairwise_cons.1 hp
  cases hx : x.1.sameKey kl
  · rw [List.find?_cons_of_neg (by rw [hx]; decide)] at hl
    have := ih (fun p hp => hk p (by simp [hp])) a2 hl
    simp only [List.map_cons, List.sum_cons, hx, Bool.not_false, Bool.and_true]
    omega
  rw [List.find?_cons_of_pos (by rw [hx])] at hl
  have hd : x.2 = d := by injection hl
  have hxk : x.1 = kl := WideAt.sameKey_eq hx
  have hrest : (r.map fun p => if (left p.1 && !p.1.sameKey kl) = true then lenOf p.2 else 0) = r.map fun p => if left p.1 = true then lenOf p.2 else 0 := by
   apply List.map_congr_left
   intro p hp'
   have : p.1.sameKey kl = false := by
    cases hs : p.1.sameKey kl
    · rfl
    exact absurd (hxk.trans (WideAt.sameKey_eq hs).symm) (a1 p hp')
   rw [this]; simp
  simp only [List.map_cons, List.sum_cons, hx, Bool.not_true, Bool.and_false, hrest, hd]
  rw [hxk, hlk]
  simp
  omega
section
variable {w : World} {dp mb room : Nat} {C : DataW Fe} {D : FS} {fuse fails : Int} {O : Nat → Prop}
theorem Files.at_key (h : Files w mb dp C D O) {kl : Lit} {f : Fe} (hat : ∀ zd, C.atKey kl zd = .held f) : look C kl = some (.held f) ∧ ∃ g, look D kl = some (.held g) ∧ f.l = (g.l : Int) ∧ f.n = g.bs.length := by
 have h1 : look C kl = some (.held f) := by
  have hh := has_true_of_atKey hat
  rw [has_look] at hh
  obtain ⟨d, hd⟩ := Option.isSome_iff_exists.1 hh
  have := hat .nil
  rw [atKey_look, hd] at this
  rw [hd, ← this]
  rfl
 refine ⟨h1, ?_⟩
 have h2 := h.at_ kl
 rw [h1] at h2
 match hd : look D kl with
 | some (.held g) => rw [hd] at h2; exact ⟨g, rfl, h2.1, own_len h2.2⟩
 | none | some (.lit _) | some .nil | some (.ptr _) | some (.slice _ _) | some (.agg _) | some (.iface _ _) | some (.map _) => rw [hd] at h2; exact h2.elim
theorem used_any (h : DskC w dp mb C D room fuse fails O) : Calls Tryz.prog 170 #[.pointer (some ⟨dp, 0, none⟩)] w fun e w' => e = .returned (.int .i64 ((tot D : Nat) : Int)) ∧ Below w.heap.size w w' := by
 have c0 := h.cell.1
 have htot : tot D ≤ 1048576 := by have h1 := h.good.tot_; have h2 := h.good.room_; omega
 have HA := Qh (fun (kl : Lit) (f : Fe) hat => h.files.at_key (kl := kl) (f := f) hat)
 have HS := Qh (h.good.canon)
 have hmb := h.lt mb h.files.inO
 have hhas : has C = has D := funext h.files.has_
 have hown := h.files.owns
 have S0 := sumL_all h.good.canon
 rw [← hhas] at S0
 have HS0 := Qh S0
 clear h hhas S0
 go_enter Tryz.func170, Tryz.ntmps170
 go_wp2_with (first
  | (at_range; refine wpList_range_own _ rfl _ 70 rfl 9 105 law9 Tryz.underlying70 rdF mb (size C) C rfl hown ?_; intro w0 hrg0 hg0 hs0)
  | fail)
 go_frame
 go_loopw [3] (fun u wr => ∃ (left : Lit → Bool) (cnt a : Nat), wr.ranges Tryz.prog 9 rdF mb w.heap.size (size C) C left cnt ∧ a + sumL left D = tot D ∧ u = .int .i64 ((a : Nat) : Int) ∧ Below w.heap.size w wr ∧ w.heap.size < wr.heap.size)
  (fun _ wr => wr.rangeLeft mb w.heap.size)
 case atStart => exact ⟨_, _, 0, hrg0, by rw [HS0.out]; omega, rfl, Qb.grown hg0 Qn (fun j hj => by cases hj), by omega⟩
 case round =>
  obtain ⟨left, cnt, a, hrg, hsum, rfl, hnx, hzz⟩ := hrel
  go_wp2_with (first
   | (at_next; refine wpList_next_ranges _ rfl _ rfl 9 law9 rdF Value.string (fun f : Fe => .agg #[.slice f.a f.n f.c, .int .i64 f.l]) (fun key kl hk => by obtain ⟨x, hx, _⟩ := Maps.keyOf_str Tryz.underlying9 hk; exact ⟨_, hx⟩) (fun v y hv => by obtain ⟨f, rfl, _⟩ := rdF_inv hv; exact ⟨f, rfl⟩) mb w.heap.size (size C) C left cnt rfl hrg ?_ ?_)
   | fail)
  · intro hc0 hl0
    have e0 := sumL_none (D := D) hl0
    have ha : a = tot D := by omega
    subst ha
    have HX := Qh hnx
    clear hnx hrg hsum e0 hc0 hl0
    go_wp2
    go_ret
    exact ⟨rfl, HX.out⟩
  intro x f kl yd yp w1 cnt1 hkey hlk hv hat hrg1 hlt hg1 hs1 hen
  have hy : (DataW.held f, []) = (yd, yp) := Option.some.inj ((rdF_val f).symm.trans hv)
  obtain ⟨rfl, rfl⟩ := Prod.mk.inj hy
  clear hy
  obtain ⟨_, g, hgD, _, hn⟩ := HA.out kl f hat
  have hst := sumL_step HS.out hgD hlk
  simp only [lenOf, ← hn] at hst
  have hb1 : Below w.heap.size w w1 := hnx.grown hg1 (by omega) (fun j hj => by injection hj with hj; omega)
  have HR := Qh (Qa hrg1 (Qa hb1 (Qa hlt (Qa hs1 hrg))))
  have hfn : a + f.n ≤ 1048576 := by omega
  have hz1 : w.heap.size < w1.heap.size := by omega
  have hw : IntKind.i64.wrap ((a : Int) + (f.n : Int)) = ((a + f.n : Nat) : Int) := by rw [IntKind.wrap_i64]; omega
  have HT := Qh (show (a + f.n) + sumL (fun z => left z && !z.sameKey kl) D = tot D by omega)
  clear hrg1 hb1 hlt hs1 hg1 hst hgD hn hv hat hkey hlk hnx hrg hsum
  go_wp2
  go_roundw
  case rel => exact ⟨_, cnt1, a + f.n, HR.out.1.alloc _, HT.out, rfl, HR.out.2.1.alloc (by omega) _, by simp; omega⟩
  case measure => rw [(HR.out.1.alloc _).left_eq, HR.out.2.2.2.2.left_eq]; exact HR.out.2.2.1
theorem synced_any (h : DskC w dp mb C D room fuse fails O) (s : ByteArray) (hs : s.size ≤ maxLen) : Calls Tryz.prog 52 #[.pointer (some ⟨dp, 0, none⟩), .string s] w
 fun e w' => e = .returned (.int .i64 (((fat D s.data.toList).getD Fl.zero).l : Int)) ∧ w = w' := by
 have c0 := h.cell.1
 have L := (h.files.run_look hs w rfl).1
 have hl : Hid ((cat C (.string s.data.toList)).l = (((fat D s.data.toList).getD Fl.zero).l : Int)) := by
  show _ = _
  cases hf : fat D s.data.toList with
  | none => rw [(h.files.cat_none h.good _ hf).2]; rfl
  | some f => exact (h.files.cat_ _ f hf).2.1
 unfold Fe.val at L
 generalize cat C (.string s.data.toList) = f at *
 have F1 : ∀ (u : Value) (x : World), (Instr.field 105 (.agg #[u, .int .i64 f.l]) 1).run Tryz.prog x = .ok (.int .i64 f.l) x := fun u x => by kernel_rfl
 clear h hs
 go_enter Tryz.func52, Tryz.ntmps52
 go_wp2
 go_ret
 exact ⟨ret_i64 hl.out, rfl⟩
end
def NewBytes (w : World) (bs : List Nat) (is : Bool) (e : Ending) (w' : World) : Prop :=
 ∃ a c, e = .returned (.tuple #[.slice a bs.length c, .bool is]) ∧ OwnB w' w.heap.size 5 (.slice a bs.length c) bs ∧ Below w.heap.size w w'
theorem eql_nil (w : World) (a : Option Addr) (n c n' c' : Nat) : (binOp .eql 38 (.slice a n c) (.slice none n' c')).run Tryz.prog w = .ok (.bool a.isNone) w := Lib.run_eql_slice_nil w _ _ a n c n' c' Tryz.underlying38
theorem cloneB_any (a : Option Addr) (n c : Nat) (bs : List Nat) (w : World) (hs : Sl w w.heap.size a n c bs) (hn : n ≤ 140737488355328) :
 Calls Tryz.prog 99 #[.slice a n c] w fun e w' => ∃ a' c', e = .returned (.slice a' bs.length c') ∧ OwnB w' w.heap.size 5 (.slice a' bs.length c') bs ∧ Below w.heap.size w w' := by
 cases a with
 | none =>
  have hc0 := hs.none_ rfl
  have hn0 : n = 0 := by have := hs.le; omega
  subst hc0 hn0
  have hbs : bs = [] := List.eq_nil_of_length_eq_zero hs.length
  subst hbs
  clear hs hn
  have q := eql_nil w none 0 0 0 0
  go_enter Tryz.func99, Tryz.ntmps99
  go_wp2
  go_ret
  exact ⟨none, 0, rfl, OwnB.nil_ _ _ _, Below.refl _ _⟩
 | some ad =>
  have ho : OwnB (w.alloc (.cells #[] 5)) w.heap.size 5 (.slice (some ⟨w.heap.size, 0, none⟩) 0 0) [] := OwnB.lit (w := w) (base := w.heap.size) 5 [] Qn (by decide)
  have h2 := hs.below ((Below.refl w.heap.size w).alloc Qn (.cells #[] 5)) Qn
  have HO := Qh (Qa ho h2)
  clear hs ho h2
  have q := eql_nil w (some ad) n c 0 0
  go_enter Tryz.func99, Tryz.ntmps99
  go_wp2_with (at_builtin; refine wpList_append_sl rfl (.tmp 5) (.tmp 6) _ rfl w.heap.size _ Tryz.underlying38 info_u8 _ [] rfl HO.out.1 _ (some ad) n c bs rfl HO.out.2 (by simp; omega) (by simp) ?_; intro v1 w1 ho1 hg1 hat1)
  rw [List.nil_append] at ho1
  have HB := Qh (((Below.refl w.heap.size w).alloc Qn (.cells #[] 5)).grown hg1 (by simp) (fun k hk => by cases hk; exact Nat.le_refl _))
  rcases ho1.2 with ⟨hv, h0⟩ | ⟨g, cap, cur, hv, _⟩
  · have hbs : bs = [] := List.eq_nil_of_length_eq_zero h0
    subst hbs hv
    have H1 := Qh ho1
    clear hg1 hat1 ho1
    go_ret
    exact ⟨none, 0, rfl, H1.out, HB.out⟩
  subst hv
  have H1 := Qh ho1
  clear hg1 hat1 ho1
  go_ret
  exact ⟨_, _, rfl, H1.out, HB.out⟩
theorem read_any {w : World} {dp : Nat} {t : St} {O : Nat → Prop} (h : IsD w dp t O) (s : ByteArray) (hs : s.size ≤ maxLen) : Calls Tryz.prog 50 #[.pointer (some ⟨dp, 0, none⟩), .string s] w
 (NewBytes w ((fat t.D s.data.toList).getD Fl.zero).bs (fat t.D s.data.toList).isSome) := by
 obtain ⟨mb, C, h⟩ := h
 have c0 := h.cell.1
 have L := (h.files.run_look hs w rfl).2
 rw [h.files.has_, h.good.has_] at L
 have hr : ((fat t.D s.data.toList).getD Fl.zero).bs.length ≤ 1048576 := by
  cases hf : fat t.D s.data.toList with
  | none => simp [Fl.zero]
  | some f => exact h.room_ hf
 have hsl : Sl w w.heap.size (cat C (.string s.data.toList)).a (cat C (.string s.data.toList)).n (cat C (.string s.data.toList)).c ((fat t.D s.data.toList).getD Fl.zero).bs := by
  cases hf : fat t.D s.data.toList with
  | none => rw [(h.files.cat_none h.good _ hf).2]; exact Sl.nil_
  | some f =>
   obtain ⟨_, _, ho⟩ := h.files.cat_ _ f hf
   obtain ⟨a, c, e, hsl⟩ := ho.sl (h.good.at_ hf).2.2.1
   unfold Fe.sl at e
   injection e with e1 e2 e3
   rw [e1, e2, e3]
   exact hsl
 unfold Fe.val at L
 generalize cat C (.string s.data.toList) = f at *
 generalize ((fat t.D s.data.toList).getD Fl.zero).bs = bs at *
 generalize (fat t.D s.data.toList).isSome = is at *
 have hb : Below w.heap.size w (w.alloc (.cells #[.slice f.a f.n f.c, .int .i64 f.l] 105)) := Qb.alloc Qn _
 have hn := hsl.length
 have CL := Qh (cloneB_any f.a f.n f.c bs _ ((hsl.below hb Qn).more (by simp)) (by omega))
 have HB := Qh hb
 clear h hs hsl hb hn
 go_enter Tryz.func50, Tryz.ntmps50
 go_wp2_with fail
 refine CL.out.mono ?_
 rintro e w' ⟨a', c', rfl, ho, hb2⟩
 have H2 := Qh (Qa (ho.mono (base' := w.heap.size) (by simp)) (HB.out.trans (hb2.mono (by simp))))
 clear ho hb2 CL
 go_wp2
 go_ret2
 exact ⟨a', c', rfl, H2.out⟩
end
section
open Go.RowKit
open Go.Maps
attribute [local go_sem] Oper.semAt_some
def fitsB (D : FS) (room : Nat) (s : List UInt8) (m : Nat) : Bool := ((fat D s).isSome || decide (size D < 64)) && decide (tot D + m ≤ room)
section
variable {w : World} {dp mb room : Nat} {C : DataW Fe} {D : FS} {fuse fails : Int} {O : Nat → Prop}
theorem used_from (h : DskC w dp mb C D room fuse fails O) (x : World) (hb : Below w.heap.size w x) : Calls Tryz.prog 170 #[.pointer (some ⟨dp, 0, none⟩)] x fun e w' => e = .returned (.int .i64 ((tot D : Nat) : Int)) ∧ Below w.heap.size w w' :=
 (used_any (h.below hb)).mono fun _ _ ⟨he, h2⟩ => ⟨he, hb.trans (h2.mono hb.size)⟩
def Fits (w : World) (b : Bool) (e : Ending) (w' : World) : Prop := e = .returned (.bool b) ∧ Below w.heap.size w w'
theorem fits_any (h : DskC w dp mb C D room fuse fails O) (s : ByteArray) (hs : s.size ≤ maxLen) (m : Nat) (hm : m ≤ 140737488355328) : Calls Tryz.prog 116 #[.pointer (some ⟨dp, 0, none⟩), .string s, .int .i64 (m : Int)] w (Fits w (fitsB D room s.data.toList m)) := by
 have L := (h.files.run_look hs w rfl).2
 rw [h.files.has_, h.good.has_] at L
 have c0 := h.cell.1
 have htot : tot D ≤ 1048576 := by have h1 := h.good.tot_; have h2 := h.good.room_; omega
 have hw : IntKind.i64.wrap (((tot D : Nat) : Int) + (m : Int)) = ((tot D : Nat) : Int) + (m : Int) := by rw [IntKind.wrap_i64]; omega
 have SS := Qh (fun (x : World) (hb : Below w.heap.size w x) => (Qa ((hb.cell (p := ⟨dp, 0, none⟩) (h.lt dp h.dpO)).trans h.cell.1) (Qa ((hb.cell (p := ⟨dp, 1, none⟩) (h.lt dp h.dpO)).trans h.cell.2.1) (Qa (h.files.run_len x (hb.block mb (h.lt mb h.files.inO)) h.good.canon) hb))))
 have US := Qh (fun (x : World) (hb : Below w.heap.size w x) => used_from h x hb)
 have Hr : Hid (fitsB D room s.data.toList m = (((fat D s.data.toList).isSome || decide (size D < 64)) && decide (tot D + m ≤ room))) := rfl
 unfold Fe.val at L
 generalize cat C (.string s.data.toList) = f at *
 generalize tot D = T at *
 generalize size D = Z at *
 generalize (fat D s.data.toList).isSome = is at *
 generalize fitsB D room s.data.toList m = R at *
 clear h hs
 have hB : Below w.heap.size w (w.alloc (.cells #[.slice f.a f.n f.c, .int .i64 f.l] 105)) := Qb.alloc Qn _
 have S0 := SS.out _ (Below.drew hB)
 have HM := Qh hm
 cases is
 · by_cases hz : Z < 64
   · have d1 : decide ((Z : Int) < 64) = true := by simp; omega
     have d2 : Hid (decide (Z < 64) = true) := by show _ = _; simp; omega
     clear hz
     go_enter Tryz.func116, Tryz.ntmps116
     go_wp2_with fail
     refine wp_region_held_drew (S := fun x => x.cell? ⟨dp, 0, none⟩ = some (.map (some mb)) ∧ x.cell? ⟨dp, 1, none⟩ = some (.int .i64 (room : Int)) ∧ (∀ ty, (Builtin.len_ #[70] ty #[.map (some mb)]).run Tryz.prog x = .ok (.int .i64 (Z : Nat)) x) ∧ Below w.heap.size w x) (by kernel_rfl) S0 (fun hHeld => ?_)
     refine qi 0 (by assumption) ?_
     iterate 11 (refine qk rfl (by kernel_rfl) (fun _ _ _ h => h) (by intro w hSw; (try dsimp only at hSw); go_simp; all_goals with_reducible rfl) (by (try simp only [Act.put, lz]); rfl) ?_)
     refine qo (qi 12 (by assumption) ?_)
     refine qk rfl (by kernel_rfl) (fun _ _ _ h => h) (by intro w hSw; (try dsimp only at hSw); go_simp; all_goals with_reducible rfl) (by (try simp only [Act.put, lz]); rfl) ?_
     refine qo (qi 14 (by assumption) ?_)
     iterate 4 (refine qk rfl (by kernel_rfl) (fun _ _ _ h => h) (by intro w hSw; (try dsimp only at hSw); go_simp; all_goals with_reducible rfl) (by (try simp only [Act.put, lz]); rfl) ?_)
     refine qo ?_
     refine qr 11 rfl (by kernel_rfl) (fun K hK => ?_)
     rw [if_pos (by rfl)]
     go_simp
     go_at_call 170
     refine (US.out _ hHeld.2.2.2).mono ?_
     rintro e w2 ⟨rfl, hb2⟩
     have S2 := SS.out _ hb2
     refine hK.out _ _ ?_ (fun hHeld => ?_)
     · exact S2
     clear hK K
     try simp only [Act.put, lz]
     refine qi 13 (by assumption) ?_
     refine qk rfl (by kernel_rfl) (fun _ _ _ h => h) (by intro w hSw; (try dsimp only at hSw); go_simp; all_goals with_reducible rfl) (by (try simp only [Act.put, lz]); rfl) ?_
     refine qo (qi 18 (by assumption) ?_)
     iterate 3 (refine qk rfl (by kernel_rfl) (fun _ _ _ h => h) (by intro w hSw; (try dsimp only at hSw); go_simp; all_goals with_reducible rfl) (by (try simp only [Act.put, lz]); rfl) ?_)
     refine qo ?_
     refine wpAnyH_done (by kernel_rfl) ?_ _
     have HB := Qh hb2
     clear S2 S0 hHeld hb2
     go_wp2
     go_ret
     exact ⟨ret_bool (by rw [Hr.out, d2.out, Bool.eq_iff_iff]; simp only [Bool.or_true, Bool.true_and, decide_eq_true_eq]; omega), HB.out⟩
   have d1 : decide ((Z : Int) < 64) = false := by simp; omega
   have d2 : Hid (decide (Z < 64) = false) := by show _ = _; simp; omega
   clear hz
   go_enter Tryz.func116, Tryz.ntmps116
   go_wp2_with fail
   refine wp_region_held_drew (S := fun x => x.cell? ⟨dp, 0, none⟩ = some (.map (some mb)) ∧ x.cell? ⟨dp, 1, none⟩ = some (.int .i64 (room : Int)) ∧ (∀ ty, (Builtin.len_ #[70] ty #[.map (some mb)]).run Tryz.prog x = .ok (.int .i64 (Z : Nat)) x) ∧ Below w.heap.size w x) (by kernel_rfl) S0 (fun hHeld => ?_)
   refine qi 0 (by assumption) ?_
   iterate 10 (refine qk rfl (by kernel_rfl) (fun _ _ _ h => h) (by intro w hSw; (try dsimp only at hSw); go_simp; all_goals with_reducible rfl) (by (try simp only [Act.put, lz]); rfl) ?_)
   refine qo (qi 10 (by assumption) ?_)
   iterate 9 (refine qu rfl (by kernel_rfl) (fun _ _ _ h => h) (by (try simp only [Act.put, lz]); rfl) ?_)
   refine qo (qi 19 (by assumption) ?_)
   iterate 2 (refine qk rfl (by kernel_rfl) (fun _ _ _ h => h) (by intro w hSw; (try dsimp only at hSw); go_simp; all_goals with_reducible rfl) (by (try simp only [Act.put, lz]); rfl) ?_)
   refine qo ?_
   refine wpAnyH_done (by kernel_rfl) ?_ _
   clear S0 hHeld
   go_wp2
   go_ret
   exact ⟨ret_bool (by rw [Hr.out, d2.out]; rfl), Below.drew hB⟩
 have d2 : Hid ((true || decide (Z < 64)) = true) := rfl
 go_enter Tryz.func116, Tryz.ntmps116
 go_wp2_with fail
 refine wp_region_held_drew (S := fun x => x.cell? ⟨dp, 0, none⟩ = some (.map (some mb)) ∧ x.cell? ⟨dp, 1, none⟩ = some (.int .i64 (room : Int)) ∧ (∀ ty, (Builtin.len_ #[70] ty #[.map (some mb)]).run Tryz.prog x = .ok (.int .i64 (Z : Nat)) x) ∧ Below w.heap.size w x) (by kernel_rfl) S0 (fun hHeld => ?_)
 refine qi 0 (by assumption) ?_
 iterate 2 (refine qk rfl (by kernel_rfl) (fun _ _ _ h => h) (by intro w hSw; (try dsimp only at hSw); go_simp; all_goals with_reducible rfl) (by (try simp only [Act.put, lz]); rfl) ?_)
 refine qo (qi 2 (by assumption) ?_)
 iterate 6 (refine qu rfl (by kernel_rfl) (fun _ _ _ h => h) (by (try simp only [Act.put, lz]); rfl) ?_)
 refine qo (qi 8 (by assumption) ?_)
 iterate 3 (refine qk rfl (by kernel_rfl) (fun _ _ _ h => h) (by intro w hSw; (try dsimp only at hSw); go_simp; all_goals with_reducible rfl) (by (try simp only [Act.put, lz]); rfl) ?_)
 refine qo (qi 12 (by assumption) ?_)
 refine qk rfl (by kernel_rfl) (fun _ _ _ h => h) (by intro w hSw; (try dsimp only at hSw); go_simp; all_goals with_reducible rfl) (by (try simp only [Act.put, lz]); rfl) ?_
 refine qo (qi 14 (by assumption) ?_)
 iterate 4 (refine qk rfl (by kernel_rfl) (fun _ _ _ h => h) (by intro w hSw; (try dsimp only at hSw); go_simp; all_goals with_reducible rfl) (by (try simp only [Act.put, lz]); rfl) ?_)
 refine qo ?_
 refine qr 11 rfl (by kernel_rfl) (fun K hK => ?_)
 rw [if_pos (by rfl)]
 go_simp
 go_at_call 170
 refine (US.out _ hHeld.2.2.2).mono ?_
 rintro e w2 ⟨rfl, hb2⟩
 have S2 := SS.out _ hb2
 refine hK.out _ _ ?_ (fun hHeld => ?_)
 · exact S2
 clear hK K
 try simp only [Act.put, lz]
 refine qi 13 (by assumption) ?_
 refine qk rfl (by kernel_rfl) (fun _ _ _ h => h) (by intro w hSw; (try dsimp only at hSw); go_simp; all_goals with_reducible rfl) (by (try simp only [Act.put, lz]); rfl) ?_
 refine qo (qi 18 (by assumption) ?_)
 iterate 3 (refine qk rfl (by kernel_rfl) (fun _ _ _ h => h) (by intro w hSw; (try dsimp only at hSw); go_simp; all_goals with_reducible rfl) (by (try simp only [Act.put, lz]); rfl) ?_)
 refine qo ?_
 refine wpAnyH_done (by kernel_rfl) ?_ _
 have HB := Qh hb2
 clear S2 S0 hHeld hb2
 go_wp2
 go_ret
 exact ⟨ret_bool (by rw [Hr.out, d2.out, Bool.eq_iff_iff]; simp only [Bool.or_true, Bool.true_and, decide_eq_true_eq]; omega), HB.out⟩
end
end
section
open Go.RowKit
open Go.Maps
attribute [local go_sem] Oper.semAt_some
def St.write (t : St) (s : List UInt8) (b : List Nat) : Int × St :=
 if t.fuse = 0 then (42, t) else
 if nmOk s = false then (1, t.burnt) else
 if fitsB t.D t.room s b.length = false then (5, t.burnt) else
 (0, { t.burnt with D := t.D.put (.string s) (.held ⟨((fat t.D s).getD Fl.zero).bs ++ b, ((fat t.D s).getD Fl.zero).l⟩) })
section
variable {w : World} {dp mb room : Nat} {C : DataW Fe} {D : FS} {fuse fails : Int} {O : Nat → Prop}
def wrOf1 (D : FS) (room : Nat) (fuse fails : Int) (s : List UInt8) (b : List Nat) : Int × St :=
 if nmOk s = false then (1, ⟨D, room, fuse, fails⟩) else
 if fitsB D room s b.length = false then (5, ⟨D, room, fuse, fails⟩) else
 (0, ⟨D.put (.string s) (.held ⟨((fat D s).getD Fl.zero).bs ++ b, ((fat D s).getD Fl.zero).l⟩), room, fuse, fails⟩)
theorem DskC.file_ (h : DskC w dp mb C D room fuse fails O) (s : List UInt8) : (cat C (.string s)).l = (((fat D s).getD Fl.zero).l : Int) ∧ OwnB w 0 5 (cat C (.string s)).sl ((fat D s).getD Fl.zero).bs ∧
 (∀ c ∈ ((fat D s).getD Fl.zero).bs, c < 256) ∧ ((fat D s).getD Fl.zero).l ≤ ((fat D s).getD Fl.zero).bs.length ∧ ((fat D s).getD Fl.zero).bs.length ≤ 1048576 ∧
 (∀ k f' b, k ≠ .string s → look C k = some (.held f') → (cat C (.string s)).sl.ownBlock = some b → f'.sl.ownBlock ≠ some b) ∧ (∀ b, (cat C (.string s)).sl.ownBlock = some b → O b ∧ b ≠ mb ∧ b ≠ dp) ∧
 (∀ b, (cat C (.string s)).sl.ownBlock = some b → look C (.string s) = some (.held (cat C (.string s)))) := by
 cases hf : fat D s with
 | none =>
  obtain ⟨h1, h2⟩ := h.files.cat_none h.good s hf
  rw [h2]
  refine ⟨rfl, OwnB.nil_ _ _ _, fun c hc => ?_, Nat.le_refl _, Nat.zero_le _, fun k f' b _ _ hb => ?_, fun b hb => ?_, fun b hb => ?_⟩
  · cases hc
  · cases hb
  · cases hb
  cases hb
 | some g =>
  have hC := h.files.cat_ s g hf
  exact ⟨hC.2.1, hC.2.2, (h.good.at_ hf).2.2.1, (h.good.at_ hf).2.1, h.room_ hf, fun k f' b hk hl hb he => hk (h.files.apart k _ f' _ b hl hC.1 he hb), fun b hb => h.files.fileO _ _ b hC.1 hb, fun b _ => hC.1⟩
theorem good_write (h : Good D room) {s : List UInt8} {b : List Nat} (hb : ∀ c ∈ b, c < 256) (hn : nmOk s = true) (hf : fitsB D room s b.length = true) (h1 : ∀ c ∈ ((fat D s).getD Fl.zero).bs, c < 256) (h2 : ((fat D s).getD Fl.zero).l ≤ ((fat D s).getD Fl.zero).bs.length) :
 Good (D.put (.string s) (.held ⟨((fat D s).getD Fl.zero).bs ++ b, ((fat D s).getD Fl.zero).l⟩)) room := by
 unfold fitsB at hf
 simp only [Bool.and_eq_true, Bool.or_eq_true, decide_eq_true_eq] at hf
 exact h.put hn (by simp; omega) (fun c hc => by rcases List.mem_append.1 hc with hc | hc; exact h1 c hc; exact hb c hc) hf.1 (by simp; omega)
theorem write1_any (h : DskC w dp mb C D room fuse fails O) (s : ByteArray) (hs : s.size ≤ 281474976710656) (a : Option Addr) (n c : Nat) (b : List Nat) (hsl : Sl w w.heap.size a n c b) (hn : n ≤ 140737488351232) (hfar : 0 < n → ∀ k o, a = some ⟨k, o, none⟩ → ¬ O k)
 (bn bd bb : Nat) (c1 : w.cell? ⟨bn, 0, none⟩ = some (.string s)) (c2 : w.cell? ⟨bd, 0, none⟩ = some (.pointer (some ⟨dp, 0, none⟩))) (c3 : w.cell? ⟨bb, 0, none⟩ = some (.slice a n c)) (hbn : ¬ O bn) (hbd : ¬ O bd) :
 Calls Tryz.prog 115 #[.pointer (some ⟨bn, 0, none⟩), .pointer (some ⟨bd, 0, none⟩), .pointer (some ⟨bb, 0, none⟩)] w (Tells1 (Left w dp O (wrOf1 D room fuse fails s.data.toList b))) := by
 have hlen := hsl.length
 have IN := Qh (isName_any s (by unfold maxLen; omega))
 cases hnm : nmOk s.data.toList with
 | false =>
  have hr : wrOf1 D room fuse fails s.data.toList b = (1, ⟨D, room, fuse, fails⟩) := by unfold wrOf1; rw [if_pos hnm]
  rw [hr]
  rw [hnm] at IN
  have HL := Qh (Left.same (w := w) (x := 1) (t := ⟨D, room, fuse, fails⟩) h (But.refl O w))
  clear h hnm hr hsl hlen
  go_enter Tryz.func115, Tryz.ntmps115
  go_wp2_with (go_at_call 113; refine (IN.out _).mono ?_; rintro e w' ⟨rfl, rfl⟩)
  go_ret
  exact ⟨1, rfl, HL.out⟩
 | true =>
  rw [hnm] at IN
  have FT := Qh (fits_any h s (by unfold maxLen; omega) n (by omega))
  cases hft : fitsB D room s.data.toList n with
  | false =>
   have hr : wrOf1 D room fuse fails s.data.toList b = (5, ⟨D, room, fuse, fails⟩) := by unfold wrOf1; rw [if_neg (by rw [hnm]; decide), hlen, if_pos hft]
   rw [hr]
   rw [hft] at FT
   have HH := Qh h
   clear h hnm hr hsl hlen hft
   go_enter Tryz.func115, Tryz.ntmps115
   go_wp2_with (first | (go_at_call 113; refine (IN.out _).mono ?_; rintro e w' ⟨rfl, rfl⟩) | fail)
   refine FT.out.mono ?_
   rintro e w2 ⟨rfl, hb2⟩
   have HB := Qh hb2
   clear hb2
   go_wp2
   go_ret
   exact ⟨5, rfl, Left.same (t := ⟨D, room, fuse, fails⟩) (HH.out.below HB.out) (But.of_below HB.out)⟩
  | true =>
   have hr : wrOf1 D room fuse fails s.data.toList b = (0, ⟨D.put (.string s.data.toList) (.held ⟨((fat D s.data.toList).getD Fl.zero).bs ++ b, ((fat D s.data.toList).getD Fl.zero).l⟩), room, fuse, fails⟩) := by
    unfold wrOf1; rw [if_neg (by rw [hnm]; decide), hlen, if_neg (by rw [hft]; decide)]
   rw [hr]
   rw [hft] at FT
   obtain ⟨f1, f2, f3, f4, f5, f6, f7, f8⟩ := h.file_ s.data.toList
   have hn20 : n ≤ 1048576 := by
    have h1 := hft
    unfold fitsB at h1
    simp only [Bool.and_eq_true, decide_eq_true_eq] at h1
    have h2 := h.good.room_
    omega
   have hgw := good_write h.good hsl.byte hnm (by rw [hlen]; exact hft) f3 f4
   have HH := Qh (Qa h (Qa f6 (Qa f7 (Qa f8 (Qa hgw (Qa f1 (Qa f3 hsl)))))))
   have hl1 := block_lt_of_cell c1
   have hl2 := block_lt_of_cell c2
   have hl3 := block_lt_of_cell c3
   generalize hg : (fat D s.data.toList).getD Fl.zero = g at *
   clear hnm hr hft hgw f6 f7 f8 f1 hg f4
   go_enter Tryz.func115, Tryz.ntmps115
   go_wp2_with (first | (go_at_call 113; refine (IN.out _).mono ?_; rintro e w' ⟨rfl, rfl⟩) | fail)
   refine FT.out.mono ?_
   rintro e w2 ⟨rfl, hb2⟩
   have k1 := (hb2.cell (p := ⟨bn, 0, none⟩) hl1).trans c1
   have k2 := (hb2.cell (p := ⟨bd, 0, none⟩) hl2).trans c2
   have k3 := (hb2.cell (p := ⟨bb, 0, none⟩) hl3).trans c3
   have h2 := h.below hb2
   have SS := Qh (fun (w' : World) (hb : Below w2.heap.size w2 w') => h2.sees (s := s) (by unfold maxLen; omega) k2 k1 hb)
   have S0 := SS.out w2.drew (Below.drew Qb)
   have own2 := f2.below hb2
   have sl2 := (hsl.below hb2 Qn).more hb2.size
   unfold Sees at S0 SS
   generalize cat C (.string s.data.toList) = f at *
   have HB : Below w2.heap.size w2 (w2.alloc (.cells #[.slice f.a f.n f.c, .int .i64 f.l] 105)).drew := Below.drew (Qb.alloc Qn _)
   have own3 : OwnB (w2.alloc (.cells #[.slice f.a f.n f.c, .int .i64 f.l] 105)).drew 0 5 (.slice f.a f.n f.c) g.bs := own2.below HB
   have sl3 := sl2.below HB Qn
   have ob : f.sl.ownBlock ≠ some w2.heap.size := fun e => by have := (own2.at_base e).2; omega
   have H2 := Qh (Qa h2 (Qa hb2 (Qa own3 sl3)))
   clear h h2 own2 sl2 hsl f2 c1 c2 c3 hb2 FT IN
   go_wp2_with fail
   refine wp_region_held_drew (S := fun x => x.cell? ⟨dp, 0, none⟩ = some (.map (some mb)) ∧ x.cell? ⟨bd, 0, none⟩ = some (.pointer (some ⟨dp, 0, none⟩)) ∧ x.cell? ⟨bn, 0, none⟩ = some (.string s) ∧
    (Instr.lookup 70 (.map (some mb)) (.string s) false).run Tryz.prog x = .ok (.agg #[.slice f.a f.n f.c, .int .i64 f.l]) x) (by kernel_rfl) ⟨S0.1, S0.2.1, S0.2.2.1, S0.2.2.2.2⟩ (fun hHeld => ?_)
   refine qi 0 (by assumption) ?_
   iterate 6 (refine qk rfl (by kernel_rfl) (fun _ _ _ h => h) (by intro w hSw; (try dsimp only at hSw); go_simp; all_goals with_reducible rfl) (by (try simp only [Act.put, lz]); rfl) ?_)
   refine qo ?_
   refine qr 6 rfl (by kernel_rfl) (fun K hK => ?_)
   rw [if_pos (by rfl)]
   go_simp
   have S1 := SS.out _ ((Below.drew (Below.refl w2.heap.size w2)).alloc Qn (.cells #[.slice none 0 0, .int .i64 0] 105))
   refine hK.out _ _ ?_ (fun hHeld => ?_)
   · exact ⟨S1.1, S1.2.1, S1.2.2.1, S1.2.2.2.2⟩
   clear hK K
   try simp only [Act.put, lz]
   refine qr 7 rfl (by kernel_rfl) (fun K hK => ?_)
   rw [if_pos (by rfl)]
   go_simp
   have S2 := SS.out _ HB
   refine hK.out _ _ ?_ (fun hHeld => ?_)
   · exact ⟨S2.1, S2.2.1, S2.2.2.1, S2.2.2.2.2⟩
   clear hK K
   try simp only [Act.put, lz]
   refine wpAnyH_done (by kernel_rfl) ?_ _
   clear S0 S1 S2 hHeld
   have j1 := (HB.cell (p := ⟨bn, 0, none⟩) (block_lt_of_cell k1)).trans k1
   have j2 := (HB.cell (p := ⟨bd, 0, none⟩) (block_lt_of_cell k2)).trans k2
   have j3 := (HB.cell (p := ⟨bb, 0, none⟩) (block_lt_of_cell k3)).trans k3
   have hz3 : (w2.alloc (.cells #[.slice f.a f.n f.c, .int .i64 f.l] 105)).drew.heap[w2.heap.size]? = some (.cells #[.slice f.a f.n f.c, .int .i64 f.l] 105 (0, 0)) := heap_alloc_new w2 _
   have HB' := Qh (Qa HB hz3)
   have nb1 : bn ≠ w2.heap.size := by have : bn < w2.heap.size := block_lt_of_cell k1; omega
   have nb2 : bd ≠ w2.heap.size := by have : bd < w2.heap.size := block_lt_of_cell k2; omega
   clear k1 k2 k3 hz3 HB SS
   go_wp2_with (first
    | (at_builtin
       go_loud (
       refine wpList_append_sl rfl (.tmp 21) (.tmp 22) _ rfl 0 _ Tryz.underlying38 info_u8 _ g.bs rfl H2.out.2.2.1 _ a n c b rfl H2.out.2.2.2 (by omega) (Nat.zero_le _) ?_
       intro v1 w4 ho1 hg1 hat1
       obtain ⟨a1, c1, rfl, -⟩ := ho1.sl (fun c hc => by rcases List.mem_append.1 hc with hc | hc; exact f3 c hc; exact H2.out.2.2.2.byte c hc)
       have hob : ∀ k, ¬ O k → some k ≠ (Value.slice f.a f.n f.c).ownBlock := fun k hk e => hk (HH.out.2.2.1 k e.symm).1
       have q1 := hg1.cell j1 (hob bn hbn)
       have q2 := hg1.cell j2 (hob bd hbd)
       have z4 := (hg1.block w2.heap.size (by simp) (fun e => ob e.symm)).trans HB'.out.2
       have q4 := frozen_of_row w4 w2.heap.size 0 _ _ z4
       have q5 := (cell_of_row w4 w2.heap.size 0 _ _ _ z4).trans rfl
       have q6 := (cell_of_row w4 w2.heap.size 1 _ _ _ z4).trans rfl
       have H4 := Qh (Qa ho1 (Qa hg1 hat1))
       clear ho1 hg1 hat1 j1 j2 j3 hob z4))
    | fail)
   obtain ⟨h2, hb2, _, sl3⟩ := H2.out
   obtain ⟨_, f6, f7, f8, hgw, f1, _, hsl⟩ := HH.out
   obtain ⟨ho1, hg1, hat1⟩ := H4.out
   have hO2 : ∀ k, O k → k < w2.heap.size := h2.lt
   have hlb : (g.bs ++ b).length = g.bs.length + n := by rw [List.length_append, hlen]
   have ho1 : OwnB w4 0 5 (.slice a1 (g.bs.length + n) c1) (g.bs ++ b) := by rw [← hlb]; simpa [hlen] using ho1
   have hat : ∀ k, (Value.slice a1 (g.bs.length + n) c1).ownBlock = some k → f.sl.ownBlock = some k ∨ k = w2.heap.size + 1 := fun k hk => by
    rcases hat1 with h | h
    · left
      have h' : (Value.slice a1 (g.bs ++ b).length c1).ownBlock = f.sl.ownBlock := h
      rw [hlb] at h'
      rw [← hk]
      exact h'.symm
    right
    have : (Value.slice a1 (g.bs.length + n) c1).ownBlock = some (w2.heap.size + 1) := by simpa [hlen] using h
    rw [this] at hk
    injection hk with hk
    exact hk.symm
   have hz5 : w2.heap.size + 1 ≤ w4.heap.size := by have := hg1.size; simpa using this
   have hX : DskX (w4.setCell ⟨w2.heap.size, 0, none⟩ (.slice a1 (g.bs.length + n) c1)) dp mb C D room fuse fails O s.data.toList := by
    refine ((h2.x s.data.toList).below HB'.out.1).same (fun k hk hno => ?_) (by simp [World.setCell]; omega)
    have hkl := hO2 k hk
    refine (Below.heap_setCell _ ⟨w2.heap.size, 0, none⟩ _ k (by show k ≠ w2.heap.size; omega)).trans (hg1.block k (by simp; omega) (fun e => ?_))
    exact hno f (f8 k e.symm) e.symm
   have hne5 : (Value.slice a1 (g.bs.length + n) c1).ownBlock ≠ some w2.heap.size := fun e => by
    rcases hat _ e with h | h
    · exact ob h
    omega
   have hO5 : OwnB (w4.setCell ⟨w2.heap.size, 0, none⟩ (.slice a1 (g.bs.length + n) c1)) 0 5 (.slice a1 (g.bs.length + n) c1) (g.bs ++ b) := World.ownsRow.kept ho1 (grownBy_setCell w4 ⟨w2.heap.size, 0, none⟩ (.slice a1 (g.bs.length + n) c1)) (.inr (fun e => hne5 e))
   have hB5 : But O w (w4.setCell ⟨w2.heap.size, 0, none⟩ (.slice a1 (g.bs.length + n) c1)) := by
    refine ((((But.of_below (O := O) hb2).trans (But.of_below (O := O) HB'.out.1) (fun _ hi => .inl hi)).trans (But.grown (O := O) hg1 (fun k hk => (f7 k hk).1)) (fun _ hi => .inl hi))).setCell (p := ⟨w2.heap.size, 0, none⟩) (.inr hb2.size) _
   have LY := Qh (lay_any s hX hs ⟨a1, g.bs.length + n, c1, f.l⟩ ⟨g.bs ++ b, g.l⟩ f1 hO5
    (fun k f' blk hk hl hb he => by
     rcases hat blk hb with h | h
     · exact f6 k f' blk hk hl h he
     have := hO2 blk (h2.files.fileO k f' blk hl he).1
     omega)
    (fun blk hb => by
     rcases hat blk hb with h | h
     · exact (f7 blk h).2
     have h3 := hO2 mb h2.files.inO
     have h4 := hO2 dp h2.dpO
     omega) hgw)
   have HA := Qh (Qa hB5 (Qa hat (Qa f7 hb2.size)))
   clear h2 hb2 sl3 f6 f7 f8 hgw f1 hsl ho1 hg1 hat1 hO2 hlb hat hz5 hX hne5 hO5 hB5
   refine LY.out.mono ?_
   rintro e w6 hL
   have he := hL.1
   subst he
   have HL := Qh hL
   clear hL LY
   go_wp2
   go_ret
   exact ⟨0, rfl, Left.laid HL.out HA.out.1 (fun k hk => by
    rcases HA.out.2.1 k hk with h | h
    · exact .inl (HA.out.2.2.1 k h).1
    right
    have := HA.out.2.2.2
    omega)⟩
end
end
section
open Go.RowKit
open Go.Maps
attribute [local go_sem] Oper.semAt_some
theorem Sl.but {O : Nat → Prop} {w w' : World} {a : Option Addr} {n c : Nat} {bs : List Nat} (h : Sl w w.heap.size a n c bs) (hb : But O w w') (hfar : 0 < n → ∀ k o, a = some ⟨k, o, none⟩ → ¬ O k) : Sl w' w'.heap.size a n c bs :=
 ⟨h.length, h.le, h.max, h.byte, h.none_, fun hp => by
  obtain ⟨b, o, e, hlt, hc⟩ := h.at_ hp
  exact ⟨b, o, e, Nat.lt_of_lt_of_le hlt hb.size, fun k hk => (hb.cell hlt (hfar hp b o e)).trans (hc k hk)⟩⟩
theorem cell_box1 (w : World) (v : Value) (t : TypeId) : (w.alloc (.cells #[v] t)).cell? ⟨w.heap.size, 0, none⟩ = some v := (cell_of_row _ _ 0 _ _ _ (heap_alloc_new w _)).trans rfl
theorem box3 (w : World) (u v x : Value) (t1 t2 t3 : TypeId) :
 (((w.alloc (.cells #[u] t1)).alloc (.cells #[v] t2)).alloc (.cells #[x] t3)).cell? ⟨w.heap.size, 0, none⟩ = some u ∧
 (((w.alloc (.cells #[u] t1)).alloc (.cells #[v] t2)).alloc (.cells #[x] t3)).cell? ⟨w.heap.size + 1, 0, none⟩ = some v ∧
 (((w.alloc (.cells #[u] t1)).alloc (.cells #[v] t2)).alloc (.cells #[x] t3)).cell? ⟨w.heap.size + 1 + 1, 0, none⟩ = some x := by
 refine ⟨?_, ?_, ?_⟩
 · exact (World.cell?_alloc_past _ _ _ (by simp <;> omega)).trans ((World.cell?_alloc_past _ _ _ (by simp)).trans (cell_box1 w u t1))
 · have := cell_box1 (w.alloc (.cells #[u] t1)) v t2
   simp only [World.size_alloc] at this
   exact (World.cell?_alloc_past _ _ _ (by simp)).trans this
 have := cell_box1 ((w.alloc (.cells #[u] t1)).alloc (.cells #[v] t2)) x t3
 simp only [World.size_alloc] at this
 exact this
theorem below3 (w : World) (o1 o2 o3 : Obj) : Below w.heap.size w (((w.alloc o1).alloc o2).alloc o3) := ((Qb.alloc Qn _).alloc (by simp) _).alloc (by simp; omega) _
theorem write_any {w : World} {dp : Nat} {t : St} {O : Nat → Prop} (h : IsD w dp t O) (s : ByteArray) (hs : s.size ≤ 281474976710656) (a : Option Addr) (n c : Nat) (b : List Nat) (hsl : Sl w w.heap.size a n c b) (hn : n ≤ 140737488351232)
 (hfar : 0 < n → ∀ k o, a = some ⟨k, o, none⟩ → ¬ O k) :
 Calls Tryz.prog 62 #[.pointer (some ⟨dp, 0, none⟩), .string s, .slice a n c] w (Tells1 (Left w dp O (t.write s.data.toList b))) := by
 obtain ⟨mb, C, h⟩ := h
 have hb3 := below3 w (.cells #[.pointer (some ⟨dp, 0, none⟩)] 24) (.cells #[.string s] 9) (.cells #[.slice a n c] 38)
 obtain ⟨x1, x2, x3⟩ := box3 w (.pointer (some ⟨dp, 0, none⟩)) (.string s) (.slice a n c) 24 9 38
 have hO := h.lt
 have CC : Calls Tryz.prog 111 #[.pointer (some ⟨dp, 0, none⟩), .func (.func 115) #[] #[.pointer (some ⟨w.heap.size + 1, 0, none⟩), .pointer (some ⟨w.heap.size, 0, none⟩), .pointer (some ⟨w.heap.size + 1 + 1, 0, none⟩)]]
  (((w.alloc (.cells #[.pointer (some ⟨dp, 0, none⟩)] 24)).alloc (.cells #[.string s] 9)).alloc (.cells #[.slice a n c] 38)) (Tells1 (Left w dp O (t.write s.data.toList b))) := by
  have h3 := h.below hb3
  by_cases hf : t.fuse = 0
  · have e : t.write s.data.toList b = (42, t) := by unfold St.write; rw [if_pos hf]
    rw [e]
    refine (call_dead (hf ▸ h3) _).mono ?_
    rintro _ w' ⟨rfl, rfl⟩
    exact ⟨42, rfl, Left.same h3 (But.of_below (O := O) hb3)⟩
  refine call_do h3 hf _ _ (fun x => by kernel_rfl) _ (fun w1 d1 bt => ?_)
  have e : t.write s.data.toList b = wrOf1 t.D t.room (burn t.fuse) t.fails s.data.toList b := by
   unfold St.write wrOf1
   rw [if_neg hf]
   rfl
  rw [e]
  have hno : ∀ k, w.heap.size ≤ k → ¬ O k := fun k hk ho => by have := hO k ho; omega
  refine (write1_any d1 s hs a n c b (((hsl.below hb3 Qn).more hb3.size).but bt hfar) hn hfar _ _ _ ?_ ?_ ?_ (hno _ (by omega)) (hno _ Qn)).mono ?_
  · exact (bt.cell (by simp) (hno _ (by omega))).trans x2
  · exact (bt.cell (by simp; omega) (hno _ Qn)).trans x1
  · exact (bt.cell (by simp) (hno _ (by omega))).trans x3
  rintro _ w'' ⟨x, rfl, hL⟩
  exact ⟨x, rfl, hL.of ((But.of_below (O := O) hb3).trans bt (fun _ hi => .inl hi))⟩
 have HC := Qh CC
 clear CC h hb3 hO x1 x2 x3 hsl hn hfar
 go_enter Tryz.func62, Tryz.ntmps62
 go_wp2_with fail
 refine HC.out.mono ?_
 rintro e w' ⟨x, rfl, hR⟩
 have HR := Qh hR
 clear hR HC
 go_wp2
 go_ret
 exact ⟨x, rfl, HR.out⟩
def St.rename (t : St) (s tn : List UInt8) : Int × St :=
 if t.fuse = 0 then (42, t) else
 if nmOk tn = false then (1, t.burnt) else
 match fat t.D s with
 | none => (3, t.burnt)
 | some f => (0, { t.burnt with D := (t.D.del (.string s)).put (.string tn) (.held f) })
def rnOf1 (D : FS) (room : Nat) (fuse fails : Int) (s tn : List UInt8) : Int × St :=
 if nmOk tn = false then (1, ⟨D, room, fuse, fails⟩) else
 match fat D s with
 | none => (3, ⟨D, room, fuse, fails⟩)
 | some f => (0, ⟨(D.del (.string s)).put (.string tn) (.held f), room, fuse, fails⟩)
theorem good_rename {D : FS} {room : Nat} (h : Good D room) {s tn : List UInt8} {f : Fl} (hf : fat D s = some f) (hn : nmOk tn = true) : Good ((D.del (.string s)).put (.string tn) (.held f)) room := by
 obtain ⟨_, h1, h2, _⟩ := h.at_ hf
 have hl : look D (.string s) = some (.held f) := by rw [h.look_, hf]; rfl
 have ht := tot_del (canon_tidy h.canon) (.string s)
 rw [hl] at ht
 simp [lenOf] at ht
 have hz := size_del (k := .string s) (canon_tidy h.canon)
 rw [h.has_, hf] at hz
 simp at hz
 have h3 := h.tot_
 have h4 := h.size_
 exact (h.del s).put hn h1 h2 (.inr (by omega)) (by omega)
section
variable {w : World} {dp mb room : Nat} {C : DataW Fe} {D : FS} {fuse fails : Int} {O : Nat → Prop}
theorem rename1_any (h : DskC w dp mb C D room fuse fails O) (s : ByteArray) (hs : s.size ≤ 281474976710656) (tn : ByteArray) (ht : tn.size ≤ 281474976710656)
 (bt bd bn : Nat) (c0 : w.cell? ⟨bt, 0, none⟩ = some (.string tn)) (c2 : w.cell? ⟨bd, 0, none⟩ = some (.pointer (some ⟨dp, 0, none⟩))) (c1 : w.cell? ⟨bn, 0, none⟩ = some (.string s)) (hbt : ¬ O bt) (hbd : ¬ O bd) (hbn : ¬ O bn) :
 Calls Tryz.prog 112 #[.pointer (some ⟨bt, 0, none⟩), .pointer (some ⟨bd, 0, none⟩), .pointer (some ⟨bn, 0, none⟩)] w (Tells1 (Left w dp O (rnOf1 D room fuse fails s.data.toList tn.data.toList))) := by
 have IN := Qh (isName_any tn (by unfold maxLen; omega))
 cases hnm : nmOk tn.data.toList with
 | false =>
  have hr : rnOf1 D room fuse fails s.data.toList tn.data.toList = (1, ⟨D, room, fuse, fails⟩) := by unfold rnOf1; rw [if_pos hnm]
  rw [hr]
  rw [hnm] at IN
  have HL := Qh (Left.same (w := w) (x := 1) (t := ⟨D, room, fuse, fails⟩) h (But.refl O w))
  clear h hnm hr
  go_enter Tryz.func112, Tryz.ntmps112
  go_wp2_with (go_at_call 113; refine (IN.out _).mono ?_; rintro e w' ⟨rfl, rfl⟩)
  go_ret
  exact ⟨1, rfl, HL.out⟩
 | true =>
  rw [hnm] at IN
  have SS := Qh (fun (w' : World) (hb : Below w.heap.size w w') => h.sees (s := s) (by unfold maxLen; omega) c2 c1 hb)
  have S0 := SS.out w.drew (Below.drew Qb)
  have hhas := h.files.has_ (.string s.data.toList)
  rw [h.good.has_] at hhas
  have hX : ∀ f : Fe, Below w.heap.size w (w.alloc (.cells #[.slice f.a f.n f.c, .int .i64 f.l] 105)).drew := fun f => Below.drew (Qb.alloc Qn _)
  have HX := Qh hX
  cases hf : fat D s.data.toList with
  | none =>
   have hr : rnOf1 D room fuse fails s.data.toList tn.data.toList = (3, ⟨D, room, fuse, fails⟩) := by unfold rnOf1; rw [if_neg (by rw [hnm]; decide), hf]
   rw [hr]
   rw [hf] at hhas
   have HH := Qh h
   unfold Sees at S0 SS
   rw [show has C (.string s.data.toList) = false from hhas] at S0 SS
   generalize cat C (.string s.data.toList) = f at *
   have HB := HX.out f
   clear h hnm hr hhas hX hf c1 c2
   go_enter Tryz.func112, Tryz.ntmps112
   go_wp2_with (first | (go_at_call 113; refine (IN.out _).mono ?_; rintro e w' ⟨rfl, rfl⟩) | fail)
   refine wp_region_held_drew (S := fun x => x.cell? ⟨dp, 0, none⟩ = some (.map (some mb)) ∧ x.cell? ⟨bd, 0, none⟩ = some (.pointer (some ⟨dp, 0, none⟩)) ∧ x.cell? ⟨bn, 0, none⟩ = some (.string s) ∧
    (Instr.lookup 70 (.map (some mb)) (.string s) true).run Tryz.prog x = .ok (.tuple #[.agg #[.slice f.a f.n f.c, .int .i64 f.l], .bool false]) x) (by kernel_rfl) ⟨S0.1, S0.2.1, S0.2.2.1, S0.2.2.2.1⟩ (fun hHeld => ?_)
   refine qi 0 (by assumption) ?_
   iterate 9 (refine qk rfl (by kernel_rfl) (fun _ _ _ h => h) (by intro w hSw; (try dsimp only at hSw); go_simp; all_goals with_reducible rfl) (by (try simp only [Act.put, lz]); rfl) ?_)
   refine qo ?_
   refine qr 9 rfl (by kernel_rfl) (fun K hK => ?_)
   rw [if_pos (by rfl)]
   go_simp
   have S1 := SS.out _ ((Below.drew (Below.refl w.heap.size w)).alloc Qn (.cells #[.slice none 0 0, .int .i64 0] 105))
   refine hK.out _ _ ?_ (fun hHeld => ?_)
   · exact ⟨S1.1, S1.2.1, S1.2.2.1, S1.2.2.2.1⟩
   clear hK K
   try simp only [Act.put, lz]
   refine qr 10 rfl (by kernel_rfl) (fun K hK => ?_)
   rw [if_pos (by rfl)]
   go_simp
   have S2 := SS.out _ HB
   refine hK.out _ _ ?_ (fun hHeld => ?_)
   · exact ⟨S2.1, S2.2.1, S2.2.2.1, S2.2.2.2.1⟩
   clear hK K
   try simp only [Act.put, lz]
   refine qi 11 (by assumption) ?_
   refine qk rfl (by kernel_rfl) (fun _ _ _ h => h) (by intro w hSw; (try dsimp only at hSw); go_simp; all_goals with_reducible rfl) (by (try simp only [Act.put, lz]); rfl) ?_
   refine qo ?_
   refine wpAnyH_done (by kernel_rfl) ?_ _
   clear S0 S1 hHeld
   go_wp2
   go_ret
   exact ⟨3, rfl, Left.same (t := ⟨D, room, fuse, fails⟩) (HH.out.below HB) (But.of_below HB)⟩
  | some g =>
   have hr : rnOf1 D room fuse fails s.data.toList tn.data.toList = (0, ⟨(D.del (.string s.data.toList)).put (.string tn.data.toList) (.held g), room, fuse, fails⟩) := by unfold rnOf1; rw [if_neg (by rw [hnm]; decide), hf]
   rw [hr]
   rw [hf] at hhas
   obtain ⟨fl, fl2, fl3⟩ := h.files.cat_ _ g hf
   have hgr := good_rename h.good hf hnm
   have hap : ∀ k f' b, look (C.del (.string s.data.toList)) k = some (.held f') → (cat C (.string s.data.toList)).sl.ownBlock = some b → f'.sl.ownBlock ≠ some b := fun k f' b hl hb he => by
    by_cases hk : k = .string s.data.toList
    · subst hk; rw [look_del_same] at hl; cases hl
    rw [look_del_other hk] at hl
    exact hk (h.files.apart k _ f' _ b hl fl he hb)
   have hfo : ∀ b, (cat C (.string s.data.toList)).sl.ownBlock = some b → O b ∧ b ≠ mb ∧ b ≠ dp := fun b hb => h.files.fileO _ _ b fl hb
   have HH := Qh (Qa h (Qa fl2 (Qa fl3 (Qa hgr (Qa hap hfo)))))
   unfold Sees at S0 SS
   rw [show has C (.string s.data.toList) = true from hhas] at S0 SS
   generalize cat C (.string s.data.toList) = f at *
   have HB := HX.out f
   have HBd := Below.drew HB
   have h3 := h.below HBd
   have k0 := (HBd.cell (p := ⟨bt, 0, none⟩) (block_lt_of_cell c0)).trans c0
   have kb : (w.alloc (.cells #[.slice f.a f.n f.c, .int .i64 f.l] 105)).drew.drew.heap[w.heap.size]? = some (.cells #[.slice f.a f.n f.c, .int .i64 f.l] 105 (0, 0)) := heap_alloc_new w _
   obtain ⟨w4, hrun, hown4, ht4⟩ := h3.files.owns.drop law9 Tryz.underlying70 (Files.key (s := s) (by unfold maxLen; omega)) 0
   have hg4 := ht4.grown
   have h4 := h3.gone s.data.toList hg4 hown4
   have hmO := h.files.inO
   have hmlt := h.lt mb hmO
   have SS2 := SS.out _ HBd
   have nbt : bt ≠ mb := fun e => hbt (e ▸ hmO)
   have nbd : bd ≠ mb := fun e => hbd (e ▸ hmO)
   have nbn : bn ≠ mb := fun e => hbn (e ▸ hmO)
   have r0 := hg4.cell k0 (fun e => nbt (by injection e))
   have r1 := hg4.cell SS2.2.1 (fun e => nbd (by injection e))
   have r2 := hg4.cell SS2.2.2.1 (fun e => nbn (by injection e))
   have r3 := hg4.cell SS2.1 (fun e => h.ne (by injection e))
   have zb := (hg4.block w.heap.size (by simp) (fun e => by injection e with e; omega)).trans kb
   have r4 := (cell_of_row w4 w.heap.size 0 _ _ _ zb).trans rfl
   have r5 := (cell_of_row w4 w.heap.size 1 _ _ _ zb).trans rfl
   have hb4 : But O w w4 := (But.of_below (O := O) HBd).trans (But.grown (O := O) hg4 (fun k e => by injection e with e; subst e; exact hmO)) (fun _ hi => .inl hi)
   have own4 : OwnB w4 0 5 (.slice f.a f.n f.c) g.bs := World.ownsRow.kept (show OwnB (w.alloc (.cells #[.slice f.a f.n f.c, .int .i64 f.l] 105)).drew.drew 0 5 (.slice f.a f.n f.c) g.bs from fl3.below HBd) hg4 (.inr (fun e => (hfo mb e).2.1 rfl))
   have LY := Qh (lay_any tn (h4.x tn.data.toList) ht f g fl2 own4 (fun k f' b _ hl hb => hap k f' b hl hb) (fun b hb => (hfo b hb).2) hgr)
   have HA := Qh (Qa hb4 hfo)
   clear h hnm hr hhas hX hf c1 c2 h3 h4 hown4 ht4 hg4 hmO hb4 own4 fl fl2 fl3 hgr hap hfo zb kb
   go_enter Tryz.func112, Tryz.ntmps112
   go_wp2_with (first | (go_at_call 113; refine (IN.out _).mono ?_; rintro e w' ⟨rfl, rfl⟩) | fail)
   refine wp_region_held_drew (S := fun x => x.cell? ⟨dp, 0, none⟩ = some (.map (some mb)) ∧ x.cell? ⟨bd, 0, none⟩ = some (.pointer (some ⟨dp, 0, none⟩)) ∧ x.cell? ⟨bn, 0, none⟩ = some (.string s) ∧
    (Instr.lookup 70 (.map (some mb)) (.string s) true).run Tryz.prog x = .ok (.tuple #[.agg #[.slice f.a f.n f.c, .int .i64 f.l], .bool true]) x) (by kernel_rfl) ⟨S0.1, S0.2.1, S0.2.2.1, S0.2.2.2.1⟩ (fun hHeld => ?_)
   refine qi 0 (by assumption) ?_
   iterate 9 (refine qk rfl (by kernel_rfl) (fun _ _ _ h => h) (by intro w hSw; (try dsimp only at hSw); go_simp; all_goals with_reducible rfl) (by (try simp only [Act.put, lz]); rfl) ?_)
   refine qo ?_
   refine qr 9 rfl (by kernel_rfl) (fun K hK => ?_)
   rw [if_pos (by rfl)]
   go_simp
   have S1 := SS.out _ ((Below.drew (Below.refl w.heap.size w)).alloc Qn (.cells #[.slice none 0 0, .int .i64 0] 105))
   refine hK.out _ _ ?_ (fun hHeld => ?_)
   · exact ⟨S1.1, S1.2.1, S1.2.2.1, S1.2.2.2.1⟩
   clear hK K
   try simp only [Act.put, lz]
   refine qr 10 rfl (by kernel_rfl) (fun K hK => ?_)
   rw [if_pos (by rfl)]
   go_simp
   have S2 := SS.out _ HB
   refine hK.out _ _ ?_ (fun hHeld => ?_)
   · exact ⟨S2.1, S2.2.1, S2.2.2.1, S2.2.2.2.1⟩
   clear hK K
   try simp only [Act.put, lz]
   refine qi 11 (by assumption) ?_
   refine qk rfl (by kernel_rfl) (fun _ _ _ h => h) (by intro w hSw; (try dsimp only at hSw); go_simp; all_goals with_reducible rfl) (by (try simp only [Act.put, lz]); rfl) ?_
   refine qo ?_
   refine wpAnyH_done (by kernel_rfl) ?_ _
   clear S0 S1 hHeld
   go_wp2_with fail
   refine wp_region_held_drew (S := fun x => x.cell? ⟨dp, 0, none⟩ = some (.map (some mb)) ∧ x.cell? ⟨bd, 0, none⟩ = some (.pointer (some ⟨dp, 0, none⟩)) ∧ x.cell? ⟨bn, 0, none⟩ = some (.string s)) (by kernel_rfl) ⟨SS2.1, SS2.2.1, SS2.2.2.1⟩ (fun hHeld => ?_)
   refine qi 0 (by assumption) ?_
   iterate 5 (refine qk rfl (by kernel_rfl) (fun _ _ _ h => h) (by intro w hSw; (try dsimp only at hSw); go_simp; all_goals with_reducible rfl) (by (try simp only [Act.put, lz]); rfl) ?_)
   refine qo ?_
   refine qr 5 rfl (by kernel_rfl) (fun K hK => ?_)
   rw [if_pos (by rfl)]
   go_simp
   refine hK.out _ _ ?_ (fun hHeld => ?_)
   · exact ⟨r3, r1, r2⟩
   clear hK K
   try simp only [Act.put, lz]
   refine wpAnyH_done (by kernel_rfl) ?_ _
   clear hHeld SS2 SS HX
   go_wp2_with fail
   refine LY.out.mono ?_
   rintro e w6 hL
   have he := hL.1
   subst he
   have HL := Qh hL
   clear hL LY
   go_wp2
   go_ret
   exact ⟨0, rfl, Left.laid HL.out HA.out.1 (fun k hk => .inl (HA.out.2 k hk).1)⟩
end
end
section
open Go.RowKit Go.Sort
open Go.Maps
attribute [local go_sem] Oper.semAt_some
theorem rename_any {w : World} {dp : Nat} {t : St} {O : Nat → Prop} (h : IsD w dp t O) (s : ByteArray) (hs : s.size ≤ 281474976710656) (tn : ByteArray) (ht : tn.size ≤ 281474976710656) :
 Calls Tryz.prog 60 #[.pointer (some ⟨dp, 0, none⟩), .string s, .string tn] w (Tells1 (Left w dp O (t.rename s.data.toList tn.data.toList))) := by
 obtain ⟨mb, C, h⟩ := h
 have hb3 := below3 w (.cells #[.pointer (some ⟨dp, 0, none⟩)] 24) (.cells #[.string s] 9) (.cells #[.string tn] 9)
 obtain ⟨x1, x2, x3⟩ := box3 w (.pointer (some ⟨dp, 0, none⟩)) (.string s) (.string tn) 24 9 9
 have hO := h.lt
 have CC : Calls Tryz.prog 111 #[.pointer (some ⟨dp, 0, none⟩), .func (.func 112) #[] #[.pointer (some ⟨w.heap.size + 1 + 1, 0, none⟩), .pointer (some ⟨w.heap.size, 0, none⟩), .pointer (some ⟨w.heap.size + 1, 0, none⟩)]]
  (((w.alloc (.cells #[.pointer (some ⟨dp, 0, none⟩)] 24)).alloc (.cells #[.string s] 9)).alloc (.cells #[.string tn] 9)) (Tells1 (Left w dp O (t.rename s.data.toList tn.data.toList))) := by
  have h3 := h.below hb3
  by_cases hf : t.fuse = 0
  · have e : t.rename s.data.toList tn.data.toList = (42, t) := by unfold St.rename; rw [if_pos hf]
    rw [e]
    refine (call_dead (hf ▸ h3) _).mono ?_
    rintro _ w' ⟨rfl, rfl⟩
    exact ⟨42, rfl, Left.same h3 (But.of_below (O := O) hb3)⟩
  refine call_do h3 hf _ _ (fun x => by kernel_rfl) _ (fun w1 d1 bt => ?_)
  have e : t.rename s.data.toList tn.data.toList = rnOf1 t.D t.room (burn t.fuse) t.fails s.data.toList tn.data.toList := by
   unfold St.rename rnOf1
   rw [if_neg hf]
   rfl
  rw [e]
  have hno : ∀ k, w.heap.size ≤ k → ¬ O k := fun k hk ho => by have := hO k ho; omega
  refine (rename1_any d1 s hs tn ht _ _ _ ?_ ?_ ?_ (hno _ (by omega)) (hno _ Qn) (hno _ (by omega))).mono ?_
  · exact (bt.cell (by simp) (hno _ (by omega))).trans x3
  · exact (bt.cell (by simp; omega) (hno _ Qn)).trans x1
  · exact (bt.cell (by simp) (hno _ (by omega))).trans x2
  rintro _ w'' ⟨x, rfl, hL⟩
  exact ⟨x, rfl, hL.of ((But.of_below (O := O) hb3).trans bt (fun _ hi => .inl hi))⟩
 have HC := Qh CC
 clear CC h hb3 hO x1 x2 x3
 go_enter Tryz.func60, Tryz.ntmps60
 go_wp2_with fail
 refine HC.out.mono ?_
 rintro e w' ⟨x, rfl, hR⟩
 have HR := Qh hR
 clear hR HC
 go_wp2
 go_ret
 exact ⟨x, rfl, HR.out⟩
theorem before_lt : ∀ {a b : List UInt8}, bytesBefore a b = true → a < b
 | [], [], h => by cases h
 | [], _ :: _, _ => List.Lex.nil
 | _ :: _, [], h => by cases h
 | x :: r, y :: s, h => by
  simp only [bytesBefore, Bool.or_eq_true, Bool.and_eq_true, decide_eq_true_eq, beq_iff_eq] at h
  rcases h with h | ⟨rfl, h⟩
  · exact List.Lex.rel h
  exact List.Lex.cons (before_lt h)
theorem names_sorted {D : FS} {room : Nat} (h : Good D room) : (strKeys D).Pairwise (fun a b => leB a b = true) := by
 rw [strKeys_keysL, List.pairwise_map]
 refine (keysL_sorted h.canon).imp_of_mem (fun {a b} ha hb hab => ?_)
 obtain ⟨x, rfl⟩ := h.strs a ((keysL_mem h.canon a).1 ha)
 obtain ⟨y, rfl⟩ := h.strs b ((keysL_mem h.canon b).1 hb)
 simp only [leB, decide_eq_true_eq]
 exact List.le_of_lt (before_lt hab)
theorem names_sort {D : FS} {room : Nat} (h : Good D room) : (strKeys D).mergeSort leB = strKeys D := List.mergeSort_of_pairwise (names_sorted h)
theorem size_names (D : FS) : (strKeys D).length = size D := by rw [strKeys_keysL, List.length_map, size_keysL]
theorem info_str : (Tryz.prog.info? 9).map (fun i => (i.zero, i.size, i.bytes)) = some (some (.string ⟨#[]⟩), 1, 16) := by kernel_rfl
def NewNames (w : World) (l : List (List UInt8)) (e : Ending) (w' : World) : Prop :=
 ∃ g c, e = .returned (.slice (some ⟨g, 0, none⟩) l.length c) ∧ w'.ownsRow w.heap.size 9 1 (.slice (some ⟨g, 0, none⟩) l.length c) l.length (l.map Go.Proofs.encStr) ∧ Below w.heap.size w w'
section
variable {w : World} {dp mb room : Nat} {C : DataW Fe} {D : FS} {fuse fails : Int} {O : Nat → Prop}
theorem list_any (h : DskC w dp mb C D room fuse fails O) : Calls Tryz.prog 27 #[.pointer (some ⟨dp, 0, none⟩)] w (NewNames w (strKeys D)) := by
 obtain ⟨i0, hi, hz0, hz1, hz2⟩ := info_parts info_str
 have c0 := h.cell.1
 have hsz := h.good.size_
 have hlen := fun (ty : TypeId) => h.files.run_len w rfl h.good.canon ty
 have hCD : Hid (strKeys C = strKeys D) := by show _ = _; rw [strKeys_keysL, strKeys_keysL, h.files.keys_ h.good.canon]
 have hzC : Hid (size C = size D) := h.files.size_ h.good.canon
 have HN := Qh (Qa (names_sort h.good) (size_names D))
 have hmb := h.lt mb h.files.inO
 have hdp := h.lt dp h.dpO
 have hown := h.files.owns
 have LW := Qh law9
 clear h
 go_enter Tryz.func27, Tryz.ntmps27
 go_wp2_with (first
  | (at_make; refine wpList_make_own _ rfl _ _ 63 rfl w.heap.size 9 i0 (.string ⟨#[]⟩) 1 Tryz.underlying63 hi hz0 hz1 _ _ _ (size D) rfl rfl rfl (by rw [hz2]; omega) (by unfold maxLen; omega) Qn ?_; intro w1 hrow1 hg1; have c1 := hg1.cell c0 (by simp))
  | (at_range; refine wpList_range_own _ rfl _ 70 rfl 9 105 LW.out Tryz.underlying70 rdF mb (size C) C rfl (hown.kept hg1 (by simp)) ?_; intro w0 hrg0 hg0 hs0)
  | fail)
 go_frame
 go_loopw [3] (fun v wr => ∃ (left : Lit → Bool) (cnt : Nat) (ss : List (List UInt8)), wr.ranges Tryz.prog 9 rdF mb w1.heap.size (size C) C left cnt ∧ ss.length + cnt ≤ size C ∧
  wr.ownsRow w.heap.size 9 1 v ss.length (ss.map Go.Proofs.encStr) ∧ v ≠ .slice none 0 0 ∧ Collected C left ss ∧ Below w.heap.size w wr)
  (fun _ wr => wr.rangeLeft mb w1.heap.size)
 case atStart =>
  exact ⟨_, _, [], hrg0, by simp, hrow1.kept hg0 (Or.inr (by simp [Value.ownBlock])), by simp, Collected.start C,
   (Qb.grown hg1 Qn (fun j hj => by cases hj)).grown hg0 hg1.size (fun j hj => by cases hj)⟩
 case round =>
  obtain ⟨left, cnt, ss, hrg, hcs, hrow, hnn, hC, hnx⟩ := hrel
  go_wp2_with (first
   | (at_next; refine wpList_next_ranges _ rfl _ rfl 9 LW.out rdF Go.Proofs.encStr (fun f : Fe => .agg #[.slice f.a f.n f.c, .int .i64 f.l]) (fun key kl hk => by obtain ⟨x, hx, _⟩ := Maps.keyOf_str Tryz.underlying9 hk; exact ⟨x, hx⟩) (fun v y hv => by obtain ⟨f, rfl, _⟩ := rdF_inv hv; exact ⟨f, rfl⟩) mb w1.heap.size (size C) C left cnt rfl hrg ?_ ?_)
   | fail)
  · intro hc0 hl0
    rcases hrow.2 with ⟨hnil, _⟩ | ⟨g, cap, cur, rfl, hbase, hb, h1, h2, h3, h4⟩
    · exact absurd hnil hnn
    have hH : Holds Go.Proofs.encStr wr g 0 ss.toArray := holds_of_block hb (by simpa using h4)
    have hgl : g < wr.heap.size := (Array.getElem?_eq_some_iff.1 hb).1
    have hc := Qh (Tryz.slices_Sort_string g 0 cap ss wr hH hgl (by have := hzC.out; omega))
    have hpm := hC.perm hrg.owns LW.out Tryz.underlying9 hl0
    have hms : ss.mergeSort leB = strKeys D := by rw [mergeSort_of_perm hpm, hCD.out]; exact HN.out.1
    have hln : ss.length = (strKeys D).length := by rw [← hms]; simp
    have hor := fun (n : Nat) (os : Array Obj) => ownsRow_sorted (w := wr) (n := n) (os := os) (ss := ss) (ts := ss.mergeSort fun x y => decide (x ≤ y)) (by simp) hbase hb h1 h2 h3
    have hgr := fun (n : Nat) (os : Array Obj) => grownBy_sorted (w := wr) (g := g) (n := n) (os := os) (ss.mergeSort fun x y => decide (x ≤ y)).toArray
    have HE := Qh (Qa hms (Qa hln (Qa hor (Qa hgr (Qa hnx hbase)))))
    clear hms hln hor hgr hnx hH hrg hcs hrow hC hpm hl0 hc0 hb h1 h2 h3 h4 hbase
    go_wp2_with fail
    refine hc.out.mono ?_
    rintro e w' ⟨rfl, nn, os, hw'⟩
    have HW := Qh hw'
    clear hw' hc
    go_wp2
    go_ret
    obtain ⟨hms, hln, hor, hgr, hnx, hbase⟩ := HE.out
    have e1 := HW.out
    subst e1
    refine ⟨g, cap, by rw [← hln]; rfl, ?_, hnx.grown (hgr nn os) hnx.size (fun j hj => by cases hj; exact hbase)⟩
    have := hor nn os
    rw [← hln, ← hms]
    exact this
  intro x f kl yd yp w2 cnt2 hkey hlk hv hat hrg2 hlt hg2 hs2 hen
  obtain ⟨x', ex, rfl, _⟩ := Maps.keyOf_str Tryz.underlying9 hkey
  obtain rfl : x = x' := encStr_inj ex
  have hrow2 := hrow.kept hg2 (Or.inr (row_ne_iter hrow hrg).symm)
  have hn2 : Below w.heap.size w w2 := hnx.grown hg2 hnx.size (fun j hj => by cases hj; exact hg1.size)
  have HH := Qh (Qa hrg (Qa hC (Qa hn2 (Qa hlk (Qa hat hlt)))))
  clear hs2 hkey hv hlk hat hnx hC hg2
  go_wp2_with (first
   | (at_builtin; refine wpList_append_own _ rfl _ _ 63 rfl w.heap.size 9 i0 (.string ⟨#[]⟩) 1 16 Tryz.underlying63 hi hz0 hz1 hz2 rfl (by decide) _ _ _ rfl (hrow2.alloc _) ⟨w2.heap.size, 0, none⟩ 1 1 [Go.Proofs.encStr x] rfl rfl (cell_one_new _ _ _) (by simp [Value.oneCell', Go.Proofs.encStr]) (by have := hzC.out; unfold maxLen at *; omega) (by have := hzC.out; omega) (by have := hn2.size; simp; omega) ?_; intro v' w3 hown' hg3 hnil3; go_frame)
   | fail)
  obtain ⟨hrg, hC, hn2, hlk, hat, hlt⟩ := HH.out
  have hrg3 := (hrg2.alloc (.cells #[Go.Proofs.encStr x] 9)).kept hg3 (row_ne_low hrow2 hmb) (row_ne_iter hrow2 hrg2)
  go_roundw
  case rel =>
   refine ⟨_, cnt2, ss ++ [x], hrg3, by simp; omega, by simpa using hown', fun hv' => by have := (hnil3.1 hv').2; omega, hC.step hlk hat, ?_⟩
   exact (hn2.alloc hn2.size _).grown hg3 (by have := hn2.size; simp; omega) (fun j hj => (hrow2.lt j hj).1)
  case measure => rw [hrg3.left_eq, hrg.left_eq]; exact hlt
end
end
end
section
open Go.RowKit
abbrev intsC (ks : List Int) (j : Nat) : Value := .int .i64 (ks.getD j 0)
abbrev i64V (l : List Int) : List Value := l.map fun x => .int .i64 x
end
section
section
open Go.RowKit Go.Sort
open Go.Maps
attribute [local go_sem] Oper.semAt_some
def keptV (ks : List Int) (i : Nat) (most : Int) : Int := if i < ks.length then min (max (ks.getD i 0) 0) most else 0
theorem keptV_le (ks : List Int) (i : Nat) {most : Int} (h : 0 ≤ most) : 0 ≤ keptV ks i most ∧ keptV ks i most ≤ most := by unfold keptV; split <;> omega
theorem kept_any (ks : List Int) (a : Option Addr) (n c : Nat) (i : Nat) (most : Int) (B : Nat) (w : World) (hr : Row w B a n c 1 (intsC ks)) (hn : ks.length = n) (hi : i ≤ 9223372036854775807) :
 Calls Tryz.prog 74 #[.slice a n c, .int .i64 (i : Int), .int .i64 most] w fun e w' => e = .returned (.int .i64 (keptV ks i most)) ∧ w = w' := by
 by_cases hlt : i < n
 · obtain ⟨b, o, rfl, _, hc⟩ := hr.at_ (by omega)
   have c1 := hc i (by omega)
   simp only [intsC] at c1
   have hk : Hid (keptV ks i most = min (max (ks.getD i 0) 0) most) := by show _ = _; unfold keptV; rw [if_pos (by omega)]
   have m1 := fun (x : World) => max2_any (ks.getD i 0) 0 x
   have m2 := fun (y : Int) (x : World) => min2i_any y most x
   generalize ks.getD i 0 = z at *
   generalize keptV ks i most = r at *
   clear hc hr hi
   go_enter Tryz.func74, Tryz.ntmps74
   go_wp2
   go_ret
   exact ⟨ret_i64 hk.out.symm, rfl⟩
 have hk : Hid (keptV ks i most = 0) := by show _ = _; unfold keptV; rw [if_neg (by omega)]
 generalize keptV ks i most = r at *
 clear hr hi
 go_enter Tryz.func74, Tryz.ntmps74
 go_wp2
 go_ret
 exact ⟨ret_i64 hk.out.symm, rfl⟩
def crM (ks : List Int) (i : Nat) (f : Fl) : Nat := f.l + (keptV ks i ((f.bs.length : Int) - (f.l : Int))).toNat
def crF (ks : List Int) (i : Nat) (f : Fl) : Fl := ⟨f.bs.take (crM ks i f), crM ks i f⟩
theorem crM_le (ks : List Int) (i : Nat) {f : Fl} (h : f.l ≤ f.bs.length) : f.l ≤ crM ks i f ∧ crM ks i f ≤ f.bs.length := by
 have := keptV_le ks i (most := (f.bs.length : Int) - (f.l : Int)) (by omega)
 unfold crM
 omega
def crD1 (ks : List Int) (i : Nat) : DataW Fl → DataW Fl
 | .held f => .held (crF ks i f)
 | d => d
def crE (ks : List Int) (k : Nat) (es : List (Lit × DataW Fl)) : List (Lit × DataW Fl) := es.mapIdx fun i p => if i < k then (p.1, crD1 ks i p.2) else p
def crD (ks : List Int) (k : Nat) : FS → FS
 | .map es => .map (crE ks k es)
 | d => d
theorem crE_keys (ks : List Int) (k : Nat) (es : List (Lit × DataW Fl)) : (crE ks k es).map (·.1) = es.map (·.1) := by
 unfold crE
 apply List.ext_getElem (by simp)
 intro i h1 h2
 simp only [List.getElem_mapIdx, List.getElem_map]
 split <;> rfl
theorem crE_zero (ks : List Int) (es : List (Lit × DataW Fl)) : crE ks 0 es = es := by
 unfold crE
 apply List.ext_getElem (by simp)
 intro i h1 h2
 simp
theorem crD_zero (ks : List Int) (D : FS) : crD ks 0 D = D := by cases D <;> simp [crD, crE_zero]
theorem keysL_crD (ks : List Int) (k : Nat) (D : FS) : keysL (crD ks k D) = keysL D := by cases D <;> simp [crD, keysL, crE_keys]
theorem crE_get (ks : List Int) (k : Nat) (es : List (Lit × DataW Fl)) (j : Nat) : (crE ks k es)[j]? = es[j]?.map fun p => if j < k then (p.1, crD1 ks j p.2) else p := by
 unfold crE
 rw [List.getElem?_mapIdx]
theorem canon_keys {D E : FS} (h : Canon D) (hm : IsMap E) (hk : keysL E = keysL D) : Canon E := by
 obtain ⟨es, rfl, h1, h2⟩ := h
 obtain ⟨es', rfl⟩ := hm
 have hk : es'.map (·.1) = es.map (·.1) := hk
 refine ⟨es', rfl, ?_, fun p hp => ?_⟩
 · have : (es.map (·.1)).Pairwise (fun a b : Lit => a.before b = true) := List.pairwise_map.2 h1
   rw [← hk] at this
   exact List.pairwise_map.1 this
 have : p.1 ∈ es'.map (·.1) := List.mem_map.2 ⟨p, hp, rfl⟩
 rw [hk] at this
 obtain ⟨q, hq, e⟩ := List.mem_map.1 this
 rw [← e]
 exact h2 q hq
theorem canon_crD (ks : List Int) (k : Nat) {D : FS} (h : Canon D) : Canon (crD ks k D) := by
 refine canon_keys h ?_ (keysL_crD ks k D)
 obtain ⟨es, rfl, _⟩ := h
 exact ⟨_, rfl⟩
theorem look_idx {D : FS} (h : Canon D) {j : Nat} {p : Lit × DataW Fl} {es : List (Lit × DataW Fl)} (hD : D = .map es) (hp : es[j]? = some p) : look D p.1 = some p.2 := by
 subst hD
 obtain ⟨es', e, h1, h2⟩ := h
 injection e with e
 subst e
 have hm : p ∈ es := List.mem_of_getElem? hp
 have h3 : (DataW.map es).atKey p.1 .nil = p.2 := WideAt.atKey_mem .nil (h2 p hm) (apart_of_rising h1) hm
 have h4 : has (.map es) p.1 = true := List.any_eq_true.2 ⟨p, hm, WideAt.sameKey_self (h2 p hm)⟩
 rw [has_look] at h4
 rw [atKey_look] at h3
 obtain ⟨d, hd⟩ := Option.isSome_iff_exists.1 h4
 rw [hd] at h3 ⊢
 rw [← h3]
 rfl
theorem look_crE (ks : List Int) (k : Nat) {es : List (Lit × DataW Fl)} (h : Canon (.map es : FS)) {j : Nat} {q : Lit × DataW Fl} (hq : es[j]? = some q) : look (crD ks k (.map es)) q.1 = some (if j < k then crD1 ks j q.2 else q.2) := by
 have e := crE_get ks k es j
 rw [hq, Option.map_some] at e
 have l := look_idx (canon_crD ks k h) (es := crE ks k es) rfl e
 by_cases hj : j < k
 · simp only [if_pos hj] at l ⊢
   exact l
 simp only [if_neg hj] at l ⊢
 exact l
theorem fat_crD {room : Nat} (ks : List Int) (k : Nat) {D : FS} (h : Good D room) {j : Nat} {s : List UInt8} {f : Fl} (hs : (strKeys D)[j]? = some s) (hf : fat D s = some f) : fat (crD ks k D) s = some (if j < k then crF ks j f else f) := by
 obtain ⟨es, rfl, h1, h2⟩ := h.canon
 have hs : (es.map fun p => Go.strOf p.1)[j]? = some s := hs
 rw [List.getElem?_map] at hs
 obtain ⟨p, hp, e⟩ := Option.map_eq_some_iff.1 hs
 obtain ⟨x, hx⟩ := h.strs p.1 (List.any_eq_true.2 ⟨p, List.mem_of_getElem? hp, WideAt.sameKey_self (h2 p (List.mem_of_getElem? hp))⟩)
 have hxs : x = s := by rw [hx] at e; exact e
 subst hxs
 have l1 := look_idx h.canon rfl hp
 rw [hx, h.look_, hf] at l1
 have hd : p.2 = .held f := by injection l1 with l1; exact l1.symm
 have l2 := look_crE ks k h.canon hp
 rw [hx, hd] at l2
 unfold fat
 rw [l2]
 by_cases hjk : j < k
 · rw [if_pos hjk, if_pos hjk]; rfl
 rw [if_neg hjk, if_neg hjk]
theorem names_mem {D : FS} {room : Nat} (h : Good D room) (s : List UInt8) : s ∈ strKeys D ↔ (fat D s).isSome = true := by
 rw [strKeys_keysL, List.mem_map, ← h.has_, ← keysL_mem h.canon]
 constructor
 · rintro ⟨k, hk, rfl⟩
   obtain ⟨x, rfl⟩ := h.strs k ((keysL_mem h.canon k).1 hk)
   exact hk
 intro hk
 exact ⟨_, hk, rfl⟩
theorem crD_succ {room : Nat} (ks : List Int) (k : Nat) {D : FS} (h : Good D room) {s : List UInt8} {f : Fl} (hs : (strKeys D)[k]? = some s) (hf : fat D s = some f) : crD ks (k + 1) D = (crD ks k D).put (.string s) (.held (crF ks k f)) := by
 have hc := canon_crD ks k h.canon
 have hstr : ∀ key, has (crD ks k D) key = true → ∃ l, key = .string l := fun key hk => h.strs key (by rw [← keysL_mem h.canon, ← keysL_crD ks k]; exact (keysL_mem hc key).2 hk)
 refine look_ext (canon_crD ks (k + 1) h.canon) (canon_put hc hstr s _) (fun key => ?_)
 obtain ⟨es, rfl, h1, h2⟩ := h.canon
 have hn : (es.map fun p => Go.strOf p.1)[k]? = some s := hs
 rw [List.getElem?_map] at hn
 obtain ⟨p, hp, e⟩ := Option.map_eq_some_iff.1 hn
 obtain ⟨x, hx⟩ := h.strs p.1 (List.any_eq_true.2 ⟨p, List.mem_of_getElem? hp, WideAt.sameKey_self (h2 p (List.mem_of_getElem? hp))⟩)
 have hxs : x = s := by rw [hx] at e; exact e
 subst hxs
 have l1 := look_idx h.canon rfl hp
 rw [hx, h.look_, hf] at l1
 have hd : p.2 = .held f := by injection l1 with l1; exact l1.symm
 by_cases hk : key = .string x
 · subst hk
   rw [look_put_same (canon_map hc) (isKey_str x)]
   have l2 := look_crE ks (k + 1) h.canon hp
   rw [if_pos (by omega), hx, hd] at l2
   exact l2
 rw [look_put_other hk]
 cases hl : look (crD ks k (.map es)) key with
 | none =>
  have h5 : has (crD ks (k + 1) (.map es)) key = false := by
   cases hb : has (crD ks (k + 1) (.map es)) key
   · rfl
   have h6 := (keysL_mem (canon_crD ks (k + 1) h.canon) key).2 hb
   rw [keysL_crD, ← keysL_crD ks k] at h6
   have h7 := (keysL_mem hc key).1 h6
   rw [has_look, hl] at h7
   cases h7
  rw [has_look] at h5
  cases hq : look (crD ks (k + 1) (.map es)) key with
  | none => rfl
  | some _ => rw [hq] at h5; cases h5
 | some d =>
  have h6 : has (crD ks k (.map es)) key = true := by rw [has_look, hl]; rfl
  have h7 := (keysL_mem hc key).2 h6
  rw [keysL_crD] at h7
  obtain ⟨q, hq, e⟩ := List.mem_map.1 (show key ∈ es.map (·.1) from h7)
  obtain ⟨j, hj⟩ := List.getElem?_of_mem hq
  have hjk : j ≠ k := fun e' => by
   subst e'
   rw [hp] at hj
   injection hj with hj
   subst hj
   exact hk (e.symm.trans hx)
  have a1 := look_crE ks k h.canon hj
  have a2 := look_crE ks (k + 1) h.canon hj
  rw [e] at a1 a2
  rw [a2, ← hl, a1]
  by_cases hlt : j < k
  · rw [if_pos hlt, if_pos (by omega)]
  rw [if_neg hlt, if_neg (by omega)]
theorem OwnB.cut {w : World} {e : TypeId} {a : Option Addr} {n c : Nat} {bs : List Nat} (h : OwnB w 0 e (.slice a n c) bs) {m : Nat} (hm : m ≤ n) : OwnB w 0 e (.slice a m c) (bs.take m) := by
 have hn := own_len h
 have hl : (bs.take m).length = m := by rw [List.length_take]; omega
 unfold OwnB
 rw [hl]
 refine ⟨by simp; omega, ?_⟩
 rcases h.2 with ⟨h', _⟩ | ⟨g, cap, cur, h', hb, hh, h1, h2, h3, h4⟩
 · injection h' with e1 e2 e3
   subst e1 e3
   have : m = 0 := by omega
   subst this
   exact .inl ⟨rfl, rfl⟩
 injection h' with e1 e2 e3
 subst e1 e3
 refine .inr ⟨g, c, cur, rfl, hb, hh, by omega, h2, h3, ?_⟩
 rw [List.map_take, ← h4, List.take_take]
 congr 1
 omega
theorem good_cr {D : FS} {room : Nat} (h : Good D room) {s : List UInt8} {f : Fl} (hf : fat D s = some f) (ks : List Int) (i : Nat) : Good (D.put (.string s) (.held (crF ks i f))) room := by
 obtain ⟨h0, h1, h2, _⟩ := h.at_ hf
 have hm := crM_le ks i h1
 refine h.put h0 (by simp [crF]; omega) (fun c hc => h2 c (List.mem_of_mem_take hc)) (.inl (by rw [hf]; rfl)) ?_
 rw [hf]
 have := h.tot_
 simp [crF]
 omega
end
section
open Go.RowKit Go.Sort
open Go.Maps
attribute [local go_sem] Oper.semAt_some
def St.crash (t : St) (ks : List Int) : St := ⟨crD ks (size t.D) t.D, t.room, -1, 0⟩
theorem Row.but {O : Nat → Prop} {w w' : World} {a : Option Addr} {n c m : Nat} {cs : Nat → Value} (h : Row w w.heap.size a n c m cs) (hb : But O w w') (hfar : 0 < n → ∀ k o, a = some ⟨k, o, none⟩ → ¬ O k) : Row w' w'.heap.size a n c m cs :=
 ⟨h.le, h.max, fun hp => by
  obtain ⟨b, o, e, hlt, hc⟩ := h.at_ hp
  exact ⟨b, o, e, Nat.lt_of_lt_of_le hlt hb.size, fun k hk => (hb.cell hlt (hfar hp b o e)).trans (hc k hk)⟩⟩
theorem block_len (a : Option Addr) (n n' c : Nat) : (Value.slice a n c).ownBlock = (Value.slice a n' c).ownBlock := by cases a <;> rfl
theorem orO {O : Nat → Prop} {v : Option Nat} (h : ∀ k, v = some k → O k) : (fun k => O k ∨ v = some k) = O := by
 funext k
 exact propext ⟨fun hk => hk.elim id (h k), .inl⟩
theorem row_alloc {w : World} {a : Option Addr} {n c m : Nat} {cs : Nat → Value} (h : Row w w.heap.size a n c m cs) (o : Obj) : Row (w.alloc o) w.heap.size a n c m cs := h.below ((Below.refl w.heap.size w).alloc Qn o) Qn
theorem row_drew {w : World} {B : Nat} {a : Option Addr} {n c m : Nat} {cs : Nat → Value} (h : Row w B a n c m cs) : Row w.drew B a n c m cs := ⟨h.le, h.max, h.at_⟩
theorem crash_any {w : World} {dp : Nat} {t : St} {O : Nat → Prop} (h : IsD w dp t O) (ks : List Int) (a : Option Addr) (n c : Nat) (hr : Row w w.heap.size a n c 1 (intsC ks)) (hn : ks.length = n) (hfar : 0 < n → ∀ k o, a = some ⟨k, o, none⟩ → ¬ O k) :
 Calls Tryz.prog 28 #[.pointer (some ⟨dp, 0, none⟩), .slice a n c] w (Turns w dp O (t.crash ks)) := by
 obtain ⟨mb, C, h⟩ := h
 have LS := Qh (list_any h)
 have hO := h.lt
 have hgood := h.good
 have hz := h.good.size_
 have hnz : Hid ((strKeys t.D).length = size t.D) := size_names t.D
 have HH := Qh (Qa h (Qa hr (Qa hfar (Qa hgood hO))))
 clear h hr hfar hgood hO
 go_enter Tryz.func28, Tryz.ntmps28
 go_wp2_with fail
 refine LS.out.mono ?_
 rintro e w0 ⟨g, nc, rfl, how, hb0⟩
 have hgb : w.heap.size ≤ g ∧ g < w0.heap.size := by
  rcases how.2 with ⟨h', _⟩ | ⟨g', cap', cur, h', h1, h2, _⟩
  · cases h'
  injection h' with h'; injection h' with h'; injection h' with h'; subst h'; exact ⟨h1, lt_of_heap h2⟩
 have HN := Qh (Qa how hb0)
 clear how hb0 LS
 generalize hL : (strKeys t.D).length = L at *
 have HLn := Qh hL
 have hLz : L ≤ 64 := by have := hnz.out; omega
 clear hL
 go_wp2_with fail
 go_loopw [10] (fun i wr => ∃ k : Nat, k ≤ L ∧ i = .int .i64 (k : Int) ∧ (∃ mb C, DskC wr dp mb C (crD ks k t.D) t.room t.fuse t.fails O) ∧ But O w0 wr) (fun i _ => L - (intOf i).toNat)
 case atStart => exact ⟨0, Nat.zero_le _, rfl, ⟨mb, C, by rw [crD_zero]; exact HH.out.1.below HN.out.2⟩, But.refl _ _⟩
 case round =>
  obtain ⟨k, hk, rfl, ⟨mb', C', hd⟩, hbt⟩ := hrel
  by_cases hlt : k < L
  · obtain ⟨_, hr0, hfar0, hG0, hO0⟩ := HH.out
    obtain ⟨s, hs⟩ : ∃ s, (strKeys t.D)[k]? = some s := ⟨_, List.getElem?_eq_getElem (by rw [HLn.out]; exact hlt)⟩
    obtain ⟨f, hf⟩ : ∃ f, fat t.D s = some f := Option.isSome_iff_exists.1 ((names_mem hG0 s).1 (List.mem_of_getElem? hs))
    have hfk : fat (crD ks k t.D) s = some f := by rw [fat_crD ks k hG0 hs hf, if_neg (by omega)]
    have hat := hG0.at_ hf
    have hsz : s.length ≤ 16 := by
     have := hat.1
     unfold nmOk at this
     simp at this
     omega
    have hgO : ¬ O g := fun ho => by have := hO0 g ho; omega
    have u0 : wr.cell? ⟨g, k, none⟩ = some (.string ⟨s.toArray⟩) := (hbt.cell hgb.2 hgO).trans (by
     rw [HN.out.1.cellAt k (by omega), List.getElem?_map, hs]; rfl)
    have c0 := hd.cell.1
    have hbs : (⟨s.toArray⟩ : ByteArray).size ≤ 281474976710656 := by show s.toArray.size ≤ _; simp; omega
    have hda : (⟨s.toArray⟩ : ByteArray).data.toList = s := by simp
    have LK := (hd.files.run_look (s := ⟨s.toArray⟩) (by unfold maxLen; omega) wr rfl).1
    rw [hda] at LK
    obtain ⟨f1, f2, f3, f4, f5, f6, f7, f8⟩ := hd.file_ s
    rw [hfk] at f1 f2 f3 f4 f5
    simp only [Option.getD_some] at f1 f2 f3 f4 f5
    have hnl := own_len f2
    have hm := crM_le ks k hat.2.1
    have hsub : Hid (crM ks k f = f.l + (keptV ks k (((cat C' (.string s)).n : Int) - (f.l : Int))).toNat) := by show _ = _; unfold crM; rw [hnl]
    have hq := keptV_le ks k (most := ((cat C' (.string s)).n : Int) - (f.l : Int)) (by omega)
    have hgc : Good ((crD ks k t.D).put (.string s) (.held ⟨f.bs.take (crM ks k f), crM ks k f⟩)) t.room := good_cr hd.good hfk ks k
    have hsucc : crD ks (k + 1) t.D = (crD ks k t.D).put (.string s) (.held ⟨f.bs.take (crM ks k f), crM ks k f⟩) := crD_succ ks k hG0 hs hf
    have hrw := ((hr0.below HN.out.2 Qn).more HN.out.2.size).but hbt hfar0
    unfold Fe.val at LK
    generalize crM ks k f = m at *
    generalize hfe : cat C' (.string s) = fe at *
    have w1 : IntKind.i64.wrap ((fe.n : Int) - (f.l : Int)) = (fe.n : Int) - (f.l : Int) := by rw [IntKind.wrap_i64]; omega
    generalize hqv : keptV ks k ((fe.n : Int) - (f.l : Int)) = q at *
    have w2 : IntKind.i64.wrap ((f.l : Int) + q) = (m : Int) := by rw [IntKind.wrap_i64]; have := hsub.out; omega
    have hmn : m ≤ fe.n := by omega
    have hmc : m ≤ fe.c := by
     rcases f2.2 with ⟨h', h0⟩ | ⟨g', cap', cur, h', _, _, h3, _⟩
     · unfold Fe.sl at h'; injection h' with _ h2' _; omega
     unfold Fe.sl at h'; injection h' with _ h2' h3'; omega
    rw [f1] at LK
    have KT := Qh (fun (x : World) (hx : Row x wr.heap.size a n c 1 (intsC ks)) => by have := kept_any ks a n c k ((fe.n : Int) - (f.l : Int)) wr.heap.size x hx hn (by omega); rw [hqv] at this; exact this)
    have cc : ∀ w, (Instr.slice 38 (.slice fe.a fe.n fe.c) none (some (.int .i64 (m : Int))) none).run Tryz.prog w = .ok (.slice fe.a m fe.c) w :=
     run_cut_to (P := Tryz.prog) 38 5 Tryz.underlying38 info_u8 fe.a fe.n fe.c m hmc
    have HB : Below wr.heap.size wr (wr.alloc (.cells #[.slice fe.a m fe.c, .int .i64 (m : Int)] 105)).drew := Below.drew (Qb.alloc Qn _)
    have LY := Qh (lay_any ⟨s.toArray⟩ ((hd.below HB).x (⟨s.toArray⟩ : ByteArray).data.toList) hbs ⟨fe.a, m, fe.c, (m : Int)⟩ ⟨f.bs.take m, m⟩ rfl ((OwnB.cut f2 hmn).below HB)
     (fun k' f' b hk' hl hb => by rw [hda] at hk'; exact f6 k' f' b hk' hl ((block_len fe.a fe.n m fe.c).trans hb)) (fun b hb => (f7 b ((block_len fe.a fe.n m fe.c).trans hb)).2) (by rw [hda]; exact hgc))
    have HR := Qh (Qa hd (Qa hbt (Qa f7 (Qa hsucc hrw))))
    clear hd hbt f1 f2 f3 f4 f5 f6 f7 f8 hr0 hfar0 hG0 hO0 hs hf hfk hat hsub hgc hsucc hfe hqv hq hm hnl hrw
    go_wp2_with fail
    obtain ⟨b0, b1⟩ := cells2 wr (.slice fe.a fe.n fe.c) (.int .i64 (f.l : Int)) 105
    have RW := row_drew (row_alloc HR.out.2.2.2.2 (.cells #[.slice fe.a fe.n fe.c, .int .i64 (f.l : Int)] 105))
    refine wp_region_still_tail 13 (by kernel_rfl) (by kernel_rfl) ?_
    change wpStill _ _ (wr.alloc (.cells #[.slice fe.a fe.n fe.c, .int .i64 (f.l : Int)] 105)).drew (fun a' => wpList _ _ _ _ a' (wr.alloc (.cells #[.slice fe.a fe.n fe.c, .int .i64 (f.l : Int)] 105)).drew) _ _
    have d0 : (wr.alloc (.cells #[.slice fe.a fe.n fe.c, .int .i64 (f.l : Int)] 105)).drew.cell? ⟨wr.heap.size, 0, none⟩ = some (.slice fe.a fe.n fe.c) := b0
    have d1 : (wr.alloc (.cells #[.slice fe.a fe.n fe.c, .int .i64 (f.l : Int)] 105)).drew.cell? ⟨wr.heap.size, 1, none⟩ = some (.int .i64 (f.l : Int)) := b1
    obtain ⟨Y, hY⟩ : ∃ Y, Y = (wr.alloc (.cells #[.slice fe.a fe.n fe.c, .int .i64 (f.l : Int)] 105)).drew := ⟨_, rfl⟩
    rw [← hY] at d0 d1 RW ⊢
    have HY := Qh hY
    clear hY b0 b1
    simp only [List.take_succ_cons, List.take_zero, List.drop_succ_cons, List.drop_zero]
    repeat still_step
    still_call ((KT.out Y RW).mono fun e w' h => ⟨h.1, h.2.symm⟩)
    repeat still_step
    refine wpStill_nil ?_
    have hY := HY.out
    subst hY
    clear HY RW d0 d1
    go_wp2_with fail
    refine LY.out.mono ?_
    rintro e w6 hL
    have he := hL.1
    subst he
    have HL := Qh hL
    have HB' := Qh HB
    clear hL LY HB KT
    go_wp2
    go_roundw
    case rel =>
     obtain ⟨hd, hbt, f7, hsucc, _⟩ := HR.out
     refine ⟨k + 1, by omega, by go_num, ⟨mb', C'.put (.string s) (.held ⟨fe.a, m, fe.c, (m : Int)⟩), ?_⟩, (hbt.trans (But.of_below (O := O) HB'.out) (fun _ hi => .inl hi)).trans HL.out.2.2 (fun _ hi => .inl hi)⟩
     have h6 := HL.out.2.1
     rw [orO (v := (⟨fe.a, m, fe.c, (m : Int)⟩ : Fe).sl.ownBlock) (fun k' hb => (f7 k' ((block_len fe.a fe.n m fe.c).trans hb)).1)] at h6
     rw [hsucc]
     exact h6
    case measure => simp [intOf]; omega
  have hkL : k = L := by omega
  subst hkL
  have hfz := hd.fuse_
  have hfl := hd.fails_
  have h1 := hd.set_ 2 (.int .i64 (-1)) (fuse' := -1) (fails' := t.fails) rfl (by decide) hd.fails_
  have h2 := h1.set_ 3 (.int .i64 0) (fuse' := -1) (fails' := 0) rfl (by decide) (by decide)
  have z := hd.cell.2.2.2.2
  have z2 := z 2
  have z3 := z 3
  have c2 := hd.cell.2.2.1
  have c3 := hd.cell.2.2.2.1
  have hB : But O w ((wr.setCell ⟨dp, 2, none⟩ (.int .i64 (-1))).setCell ⟨dp, 3, none⟩ (.int .i64 0)) := (((But.of_below (O := O) HN.out.2).trans hbt (fun _ hi => .inl hi)).setCell (p := ⟨dp, 2, none⟩) (.inl hd.dpO) _).setCell (p := ⟨dp, 3, none⟩) (.inl hd.dpO) _
  have HE := Qh (Qa h2 (Qa hB hnz.out))
  clear hd hbt h1 h2 z hB hfz hfl
  go_wp2
  go_end0
  refine ⟨rfl, ⟨mb', C', ?_⟩, HE.out.2.1⟩
  have h2 := HE.out.1
  rw [HE.out.2.2] at h2
  exact h2
end
section
open Go.RowKit Go.Sort
open Go.Maps
structure DK (w0 w : World) (dp : Nat) (t : St) (O : Nat → Prop) : Prop where
 is : IsD w dp t O
 base : ∀ k, O k → w0.heap.size ≤ k
 below : Below w0.heap.size w0 w
theorem DK.on {w0 w w' : World} {dp : Nat} {t : St} {O : Nat → Prop} (h : DK w0 w dp t O) (hb : Below w.heap.size w w') : DK w0 w' dp t O :=
 ⟨Dsk.below h.is hb, h.base, h.below.trans (hb.mono h.below.size)⟩
theorem DK.lt {w0 w : World} {dp : Nat} {t : St} {O : Nat → Prop} (h : DK w0 w dp t O) : ∀ k, O k → k < w.heap.size := Dsk.lt h.is
theorem DK.good {w0 w : World} {dp : Nat} {t : St} {O : Nat → Prop} (h : DK w0 w dp t O) : Good t.D t.room := Dsk.good h.is
def Mv (w0 w : World) (dp : Nat) (O : Nat → Prop) (t : St) (w' : World) : Prop := ∃ O', DK w0 w' dp t O' ∧ But O w w' ∧ ∀ k, O' k → O k ∨ w.heap.size ≤ k
theorem Mv.of {w0 w w' : World} {dp : Nat} {O O' : Nat → Prop} {t t' : St} (h : DK w0 w dp t O) (hi : IsD w' dp t' O') (hb : But O w w') (hO : ∀ k, O' k → O k ∨ w.heap.size ≤ k) : Mv w0 w dp O t' w' :=
 ⟨O', ⟨hi, fun k hk => by rcases hO k hk with h1 | h1; exact h.base k h1; exact Nat.le_trans h.below.size h1, h.below.trans (hb.below h.below.size h.base)⟩, hb, hO⟩
theorem Mv.far {w0 w w' : World} {dp : Nat} {O : Nat → Prop} {t : St} (h : Mv w0 w dp O t w') : ∃ O', DK w0 w' dp t O' ∧ But O w w' ∧ ∀ k, k < w.heap.size → ¬ O k → ¬ O' k := by
 obtain ⟨O', h1, h2, h3⟩ := h
 exact ⟨O', h1, h2, fun k hk hn ho => by rcases h3 k ho with h4 | h4; exact hn h4; omega⟩
section
variable {w0 w : World} {dp : Nat} {t : St} {O : Nat → Prop}
theorem DK.new (room : Nat) (hr : room ≤ 1048576) (w : World) : Calls Tryz.prog 6 #[.int .i64 (room : Int)] w fun e w' => ∃ dp O, e = .returned (.pointer (some ⟨dp, 0, none⟩)) ∧ DK w w' dp ⟨.map [], room, -1, 0⟩ O ∧ Below w.heap.size w w' ∧ ∀ k, O k → w.heap.size ≤ k :=
 (new_yes room hr w).mono fun e w' ⟨h1, h2, h3⟩ => ⟨_, _, h1, ⟨h3, fun k hk => by rcases hk with rfl | rfl <;> omega, h2⟩, h2, fun k hk => by rcases hk with rfl | rfl <;> omega⟩
theorem DK.tells (h : DK w0 w dp t O) {r : Int × St} {e : Ending} {w' : World} (hT : Tells1 (Left w dp O r) e w') : e = .returned (.int .i64 r.1) ∧ Mv w0 w dp O r.2 w' := by
 obtain ⟨x, rfl, rfl, O', h1, h2, h3⟩ := hT
 exact ⟨rfl, Mv.of h h1 h2 h3⟩
theorem DK.write (h : DK w0 w dp t O) (s : ByteArray) (hs : s.size ≤ 281474976710656) (a : Option Addr) (n c : Nat) (b : List Nat) (hsl : Sl w w.heap.size a n c b) (hn : n ≤ 140737488351232) (hfar : 0 < n → ∀ k o, a = some ⟨k, o, none⟩ → ¬ O k) :
 Calls Tryz.prog 62 #[.pointer (some ⟨dp, 0, none⟩), .string s, .slice a n c] w fun e w' => e = .returned (.int .i64 (t.write s.data.toList b).1) ∧ Mv w0 w dp O (t.write s.data.toList b).2 w' :=
 (write_any h.is s hs a n c b hsl hn hfar).mono fun _ _ hT => h.tells hT
theorem DK.sync (h : DK w0 w dp t O) (s : ByteArray) (hs : s.size ≤ 281474976710656) :
 Calls Tryz.prog 59 #[.pointer (some ⟨dp, 0, none⟩), .string s] w fun e w' => e = .returned (.int .i64 (t.sync s.data.toList).1) ∧ Mv w0 w dp O (t.sync s.data.toList).2 w' :=
 (sync_any h.is s hs).mono fun _ _ hT => h.tells hT
theorem DK.delete (h : DK w0 w dp t O) (s : ByteArray) (hs : s.size ≤ 281474976710656) :
 Calls Tryz.prog 61 #[.pointer (some ⟨dp, 0, none⟩), .string s] w fun e w' => e = .returned (.int .i64 (t.delete s.data.toList).1) ∧ Mv w0 w dp O (t.delete s.data.toList).2 w' :=
 (delete_any h.is s hs).mono fun _ _ hT => h.tells hT
theorem DK.rename (h : DK w0 w dp t O) (s tn : ByteArray) (hs : s.size ≤ 281474976710656) (ht : tn.size ≤ 281474976710656) :
 Calls Tryz.prog 60 #[.pointer (some ⟨dp, 0, none⟩), .string s, .string tn] w fun e w' => e = .returned (.int .i64 (t.rename s.data.toList tn.data.toList).1) ∧ Mv w0 w dp O (t.rename s.data.toList tn.data.toList).2 w' :=
 (rename_any h.is s hs tn ht).mono fun _ _ hT => h.tells hT
theorem DK.turns (h : DK w0 w dp t O) {t' : St} {e : Ending} {w' : World} (hT : Turns w dp O t' e w') : e = .returned (.tuple #[]) ∧ Mv w0 w dp O t' w' :=
 ⟨hT.1, Mv.of h hT.2.1 hT.2.2 (fun _ hk => .inl hk)⟩
theorem DK.fuse (h : DK w0 w dp t O) (n : Int) (hn : n ≤ 9223372036854775807) : Calls Tryz.prog 41 #[.pointer (some ⟨dp, 0, none⟩), .int .i64 n] w fun e w' => e = .returned (.tuple #[]) ∧ Mv w0 w dp O (t.fuse_ n) w' :=
 (fuse_any h.is n hn).mono fun _ _ hT => h.turns hT
theorem DK.fail (h : DK w0 w dp t O) (n : Int) (hn : n ≤ 9223372036854775807) : Calls Tryz.prog 42 #[.pointer (some ⟨dp, 0, none⟩), .int .i64 n] w fun e w' => e = .returned (.tuple #[]) ∧ Mv w0 w dp O (t.fail_ n) w' :=
 (fail_any h.is n hn).mono fun _ _ hT => h.turns hT
theorem DK.crash (h : DK w0 w dp t O) (ks : List Int) (a : Option Addr) (n c : Nat) (hr : Row w w.heap.size a n c 1 (intsC ks)) (hn : ks.length = n) (hfar : 0 < n → ∀ k o, a = some ⟨k, o, none⟩ → ¬ O k) :
 Calls Tryz.prog 28 #[.pointer (some ⟨dp, 0, none⟩), .slice a n c] w fun e w' => e = .returned (.tuple #[]) ∧ Mv w0 w dp O (t.crash ks) w' :=
 (crash_any h.is ks a n c hr hn hfar).mono fun _ _ hT => h.turns hT
theorem DK.read (h : DK w0 w dp t O) (s : ByteArray) (hs : s.size ≤ maxLen) : Calls Tryz.prog 50 #[.pointer (some ⟨dp, 0, none⟩), .string s] w (NewBytes w ((fat t.D s.data.toList).getD Fl.zero).bs (fat t.D s.data.toList).isSome) := read_any h.is s hs
theorem DK.list (h : DK w0 w dp t O) : Calls Tryz.prog 27 #[.pointer (some ⟨dp, 0, none⟩)] w (NewNames w (strKeys t.D)) := by obtain ⟨mb, C, h1⟩ := h.is; exact list_any h1
theorem DK.synced (h : DK w0 w dp t O) (s : ByteArray) (hs : s.size ≤ maxLen) : Calls Tryz.prog 52 #[.pointer (some ⟨dp, 0, none⟩), .string s] w fun e w' => e = .returned (.int .i64 (((fat t.D s.data.toList).getD Fl.zero).l : Int)) ∧ w = w' := by obtain ⟨mb, C, h1⟩ := h.is; exact synced_any h1 s hs
end
theorem lit_sl (w : World) (bs : List Nat) (hb : ∀ c ∈ bs, c < 256) (hm : bs.length ≤ maxLen) : Sl (w.alloc (.cells ((bs.map bv).toArray) 5)) (w.alloc (.cells ((bs.map bv).toArray) 5)).heap.size (some ⟨w.heap.size, 0, none⟩) bs.length bs.length bs :=
 Sl.new (heap_alloc_new w _) rfl hb _ rfl hm
theorem NewBytes.out {w0 w w' : World} {dp : Nat} {t : St} {O : Nat → Prop} (h : DK w0 w dp t O) {bs : List Nat} {is : Bool} {e : Ending} (hN : NewBytes w bs is e w') (hb : ∀ c ∈ bs, c < 256) :
 ∃ a c, e = .returned (.tuple #[.slice a bs.length c, .bool is]) ∧ Sl w' w'.heap.size a bs.length c bs ∧ (0 < bs.length → ∀ k o, a = some ⟨k, o, none⟩ → ¬ O k ∧ w.heap.size ≤ k) ∧ Below w.heap.size w w' := by
 obtain ⟨a, c, he, ho, hB⟩ := hN
 obtain ⟨a', c', e1, hs, hbase⟩ := ho.sl_base hb
 injection e1 with e2 e3 e4
 subst e2 e4
 exact ⟨a, c, he, hs, fun _ k o hk => ⟨fun hO => by have := h.lt k hO; have := hbase k o hk; omega, hbase k o hk⟩, hB⟩
theorem fat_byte {D : FS} {room : Nat} (h : Good D room) (s : List UInt8) : ∀ c ∈ ((fat D s).getD Fl.zero).bs, c < 256 := by
 cases hf : fat D s with
 | none => intro c hc; cases hc
 | some f => exact (h.at_ hf).2.2.1
end
end
section
open Go.ChangeShapes Go.WideShapes Go.RowKit
structure OpV where
 what : Int
 nm : ByteArray
 to_ : ByteArray
 ba : Option Addr
 bc : Nat
 bs : List Nat
 n : Int
 ka : Option Addr
 kc : Nat
 ks : List Int
instance : Inhabited OpV := ⟨⟨0, ⟨#[]⟩, ⟨#[]⟩, none, 0, [], 0, none, 0, []⟩⟩
section
variable {H : Type} {enc : TypeId × Value → H}
end
end
section
open Go.RowKit Go.Sort
open Go.Maps
attribute [local go_sem] Oper.semAt_some
abbrev strC (l : List (List UInt8)) (j : Nat) : Value := Go.Proofs.encStr (l.getD j [])
theorem NewNames.out {w w' : World} {l : List (List UInt8)} {e : Ending} (h : NewNames w l e w') : ∃ g c, e = .returned (.slice (some ⟨g, 0, none⟩) l.length c) ∧ Row w' w'.heap.size (some ⟨g, 0, none⟩) l.length c 1 (strC l) ∧ w.heap.size ≤ g ∧ Below w.heap.size w w' := by
 obtain ⟨g, c, he, ho, hb⟩ := h
 have hg : w.heap.size ≤ g ∧ g < w'.heap.size ∧ l.length ≤ c ∧ c ≤ maxLen := by
  rcases ho.2 with ⟨h', _⟩ | ⟨g', cap', cur, h', h1, h2, h3, h4, _⟩
  · cases h'
  injection h' with h' h5 h6
  injection h' with h'
  injection h' with h'
  subst h' h6
  exact ⟨h1, lt_of_heap h2, h3, h4⟩
 refine ⟨g, c, he, ⟨hg.2.2.1, hg.2.2.2, fun _ => ⟨g, 0, rfl, hg.2.1, fun j hj => ?_⟩⟩, hg.1, hb⟩
 rw [Nat.zero_add, ho.cellAt j (by omega), List.getElem?_map, List.getElem?_eq_getElem (by omega)]
 simp only [strC, List.getD_eq_getElem?_getD, List.getElem?_eq_getElem (show j < l.length by omega)]
 rfl
theorem sameStr_any (l : List (List UInt8)) (a1 a2 : Option Addr) (c1 c2 : Nat) (w : World) (h1 : Row w w.heap.size a1 l.length c1 1 (strC l)) (h2 : Row w w.heap.size a2 l.length c2 1 (strC l)) :
 Calls Tryz.prog 30 #[.slice a1 l.length c1, .slice a2 l.length c2] w fun e w' => e = .returned (.bool true) ∧ Below w.heap.size w w' := by
 have m1 := h1.le
 have m2 := h1.max
 unfold maxLen at m2
 have HH := Qh (Qa h1 h2)
 clear h1 h2
 generalize hn : l.length = n at *
 have Hn := Qh hn
 clear hn
 go_enter Tryz.func30, Tryz.ntmps30
 go_wp2_with fail
 go_loopw [5] (fun i wr => ∃ k : Nat, k ≤ n ∧ i = .int .i64 (k : Int) ∧ Below w.heap.size w wr) (fun i _ => n - (intOf i).toNat)
 case atStart => exact ⟨0, Nat.zero_le _, rfl, Below.refl _ _⟩
 case round =>
  obtain ⟨k, hk, rfl, hnx⟩ := hrel
  by_cases hlt : k < n
  · obtain ⟨b1, o1, rfl, hb1, hc1⟩ := HH.out.1.at_ (by omega)
    obtain ⟨b2, o2, rfl, hb2, hc2⟩ := HH.out.2.at_ (by omega)
    have e1 := (hnx.cell (p := ⟨b1, o1 + k, none⟩) hb1).trans (hc1 k (by omega))
    have e2 := (hnx.cell (p := ⟨b2, o2 + k, none⟩) hb2).trans (hc2 k (by omega))
    simp only [strC] at e1 e2
    generalize l.getD k [] = s at *
    have HX := Qh hnx
    clear hnx hc1 hc2
    go_wp2_with fail
    refine wp_region_held_drew (S := fun x => x.cell? ⟨b1, o1 + k, none⟩ = some (.string ⟨s.toArray⟩) ∧ x.cell? ⟨b2, o2 + k, none⟩ = some (.string ⟨s.toArray⟩)) (by kernel_rfl) ⟨e1, e2⟩ (fun hHeld => ?_)
    refine qi 0 (by assumption) ?_
    iterate 9 (refine qk rfl (by kernel_rfl) (fun _ _ _ h => h) (by intro w hSw; (try dsimp only at hSw); go_simp; all_goals with_reducible rfl) (by (try simp only [Act.put, lz]); rfl) ?_)
    refine qo ?_
    refine wpAnyH_done (by kernel_rfl) ?_ _
    clear hHeld
    go_wp2
    go_roundw
    case rel => exact ⟨k + 1, by omega, by go_num, Below.drew HX.out⟩
    case measure => simp [intOf]; omega
  have HX := Qh hnx
  clear hnx
  go_wp2
  go_ret
  exact ⟨rfl, HX.out⟩
end
section
open Go.RowKit
theorem i64V_one (cs : List Int) : ∀ u ∈ i64V cs, u.oneCell' = true := by
 intro u hu
 obtain ⟨n, _, rfl⟩ := List.mem_map.1 hu
 rfl
theorem Row.news {w : World} {B : Nat} {ad : Addr} {m c : Nat} {l : List Int} (h : Row w B (some ad) m c 1 (intsC l)) (hl : l.length = m) : ∀ j u, (i64V l)[j]? = some u → w.cell? (ad.add j) = some u := by
 intro j u hu
 rw [List.getElem?_map] at hu
 obtain ⟨n, hn, rfl⟩ := Option.map_eq_some_iff.1 hu
 have hj : j < m := by
  have := (List.getElem?_eq_some_iff.1 hn).1
  rw [← hl]; exact this
 obtain ⟨b, o, e, _, hc⟩ := h.at_ (by omega)
 have he : ad = ⟨b, o, none⟩ := by injection e
 subst he
 rw [Addr.add_mid, hc j (by omega)]
 simp only [intsC, List.getD_eq_getElem?_getD, hn]
 rfl
theorem OwnV.at_base {w : World} {base : Nat} {e : TypeId} {v : Value} {us : List Value} (h : OwnV w base e v us) {b : Nat} (hb : v.ownBlock = some b) : base ≤ b ∧ b < w.heap.size := by
 rcases h.2 with ⟨rfl, _⟩ | ⟨g, cap, cur, rfl, h2, h3, _⟩
 · cases hb
 injection hb with hb
 subst hb
 exact ⟨h2, lt_of_heap h3⟩
theorem OwnV.lit_ {w : World} {base : Nat} (e : TypeId) (l : List Int) (hb : base ≤ w.heap.size) (hm : l.length ≤ maxLen) :
 OwnV (w.alloc (.cells (i64V l).toArray e)) base e (.slice (some ⟨w.heap.size, 0, none⟩) l.length l.length) (i64V l) := by
 have := World.ownsRow_lit (base := base) (e := e) (size := 1) w (i64V l).toArray l.length hb hm (by simp)
 simpa [OwnV] using this
theorem wpList_append_ints {P : Program} {w : World} {ops : Array Oper} {rest : List Oper} {o : Oper} {a : Act} {Q : Exit → Act → World → Prop} (hgd : o.guard = none) (s x : Operand) (t : TypeId)
 (ho : o.op = .call { callee := .builtin .append, args := #[s, x], argTypes := #[t, t] })
 (base : Nat) (e : TypeId) (ht : P.underlying t = some (.slice e)) (hi : (P.info? e).map (fun i => (i.zero, i.size, i.bytes)) = some (some (.int .i64 0), 1, 8))
 (v : Value) (l : List Int) (hs : a.eval s = v) (hown : OwnV w base e v (i64V l))
 (B : Nat) (A : Option Addr) (m c : Nat) (l2 : List Int) (hx : a.eval x = .slice A m c) (hc : Row w B A m c 1 (intsC l2)) (hl2 : l2.length = m) (hA : A = none → m = 0 ∧ c = 0)
 (hbytes : l.length + m ≤ 1000000000) (hbase : base ≤ w.heap.size)
 (h : ∀ v' w', OwnV w' base e v' (i64V (l ++ l2)) → w.grownBy w' v.ownBlock → (v'.ownBlock = v.ownBlock ∨ v'.ownBlock = some w.heap.size) → wpList P ops Q rest (a.put o.dst v') w') :
 wpList P ops Q (o :: rest) a w := by
 obtain ⟨i, hi, hz0, hz1, hz2⟩ := info_parts hi
 cases A with
 | none =>
  obtain ⟨hm0, hc0⟩ := hA rfl
  subst hc0 hm0
  have hcs : l2 = [] := List.eq_nil_of_length_eq_zero hl2
  subst hcs
  refine wpList_append_own_none hgd s x t ho base e i 1 ht hi v (i64V l).length (i64V l) hs hown hx ?_
  exact h v w (by simpa using hown) (World.grownBy.refl w _) (.inl rfl)
 | some ad =>
  refine wpList_append_own_at w hgd s x t ho base e i (.int .i64 0) 1 8 ht hi hz0 hz1 hz2 rfl (by decide) v (i64V l).length (i64V l) hs hown ad m c (i64V l2) hx (by rw [List.length_map, hl2]; omega) (hc.news hl2) (i64V_one l2)
   (by unfold maxLen; rw [List.length_map]; omega) (by rw [List.length_map]; omega) hbase ?_
  intro v' w' h1 h2 _ h4
  refine h v' w' ?_ h2 h4
  unfold OwnV
  have e1 : i64V (l ++ l2) = i64V l ++ i64V l2 := List.map_append
  rw [e1, List.length_append, show (i64V l2).length = m by rw [List.length_map, hl2]]
  exact h1
theorem Row.from_ {w : World} {B : Nat} {a : Option Addr} {n c : Nat} {l : List Int} (h : Row w B a n c 1 (intsC l)) {k : Nat} (hk : k ≤ n) (hl : l.length = n) : Row w B (fromA a c k) (n - k) (c - k) 1 (intsC (l.drop k)) := by
 have hle := h.le
 have hmx := h.max
 refine ⟨by omega, by omega, fun hp => ?_⟩
 obtain ⟨b, o, e, hb, hc⟩ := h.at_ (by omega)
 subst e
 have hck : k ≠ c := by omega
 refine ⟨b, o + k, ?_, hb, fun j hj => ?_⟩
 · unfold fromA
   rw [if_neg (by omega)]
   show some (Addr.add ⟨b, o, none⟩ k) = _
   rw [Addr.add_mid]
 rw [show o + k + j = o + (k + j) by omega, hc (k + j) (by omega)]
 simp only [intsC, List.getD_eq_getElem?_getD, List.getElem?_drop]
/-! Cuts of a slice of one-cell values, in one form whatever the address. -/
section
variable {P : Program} (t e : TypeId) (ht : P.underlying t = some (.slice e)) {z : Value} {by_ : Nat} (hi : (P.info? e).map (fun i => (i.zero, i.size, i.bytes)) = some (some z, 1, by_))
include ht hi
theorem run_cut1_to (a : Option Addr) (len cap k : Nat) (hk : k ≤ cap) (w : World) :
 (Instr.slice t (.slice a len cap) none (some (.int .i64 (k : Int))) none).run P w = .ok (.slice a k cap) w := by
 obtain ⟨i, hi, _, hz1, _⟩ := info_parts hi
 have hs : (sizeOf e).run P w = .ok 1 w := by simp [sizeOf, typeInfo, hi, hz1]
 have ht' : P.underlying t = some (.slice (P.elem t)) := by simp [Program.elem, ht]
 have he : P.elem t = e := by simp [Program.elem, ht]
 rw [run_slice_h w t _ _ _ ht' .i64 _ (by omega) (by omega), he, hs]
 have ha : a.map (fun x => x.add 0) = a := by cases a <;> simp [Addr.add]
 simp [Result.andThen, sliced, ha]
theorem run_cut1_from (a : Option Addr) (len cap k : Nat) (hk : k ≤ len) (w : World) :
 (Instr.slice t (.slice a len cap) (some (.int .i64 (k : Int))) none none).run P w = .ok (.slice (if cap = k then a else a.map (·.add k)) (len - k) (cap - k)) w := by
 obtain ⟨i, hi, _, hz1, _⟩ := info_parts hi
 have hs : (sizeOf e).run P w = .ok 1 w := by simp [sizeOf, typeInfo, hi, hz1]
 have ht' : P.underlying t = some (.slice (P.elem t)) := by simp [Program.elem, ht]
 have he : P.elem t = e := by simp [Program.elem, ht]
 rw [run_slice_l w t _ _ _ ht' .i64 _ (by omega) (by omega), he, hs]
 simp [Result.andThen, sliced]
end
end
section
section
open Go.RowKit
open Go.Maps
attribute [local go_sem] Oper.semAt_some
structure REnt where
 s : List UInt8
 a : Option Addr
 c : Nat
 bs : List Nat
 l : Nat
abbrev REnt.cells (e : REnt) : List Value := [.string ⟨e.s.toArray⟩, .slice e.a e.bs.length e.c, .int .i64 (e.l : Int)]
abbrev REnt.fl (e : REnt) : Fl := ⟨e.bs, e.l⟩
abbrev REnt.ent (e : REnt) : Lit × DataW Fl := (.string e.s, .held e.fl)
def rcells (es : List REnt) : List Value := es.flatMap REnt.cells
def rD (es : List REnt) : FS := .map (es.map REnt.ent)
theorem rcells_append (a b : List REnt) : rcells (a ++ b) = rcells a ++ rcells b := by simp [rcells]
theorem rcells_len (es : List REnt) : (rcells es).length = es.length * 3 := by
 induction es with
 | nil => rfl
 | cons e es ih =>
  show (e.cells ++ rcells es).length = _
  rw [List.length_append, ih]
  simp
  omega
theorem rcells_get : ∀ (es : List REnt) (k : Nat) (e : REnt), es[k]? = some e → (rcells es)[k * 3]? = some (.string ⟨e.s.toArray⟩) ∧ (rcells es)[k * 3 + 1]? = some (.slice e.a e.bs.length e.c) ∧ (rcells es)[k * 3 + 2]? = some (.int .i64 (e.l : Int)) := by
 intro es
 induction es with
 | nil => intro k e h; simp at h
 | cons x es ih =>
  intro k e h
  cases k with
  | zero =>
   simp at h
   subst h
   exact ⟨rfl, rfl, rfl⟩
  | succ k =>
   have := ih k e (by simpa using h)
   have q : ∀ j, (rcells (x :: es))[j + 3]? = (rcells es)[j]? := fun j => rfl
   rw [show (k + 1) * 3 = k * 3 + 3 from by omega, show k * 3 + 3 + 1 = k * 3 + 1 + 3 from by omega, show k * 3 + 3 + 2 = k * 3 + 2 + 3 from by omega, q, q, q]
   exact this
structure RdC (w : World) (rp : Nat) (t : St) (O : Nat → Prop) (a : Option Addr) (c : Nat) (es : List REnt) : Prop where
 cells : w.heap[rp]? = some (.cells #[.int .i64 (t.room : Int), .slice a es.length c, .int .i64 t.fuse, .int .i64 t.fails] 75 (0, 0))
 own : w.ownsRow 0 124 3 (.slice a es.length c) es.length (rcells es)
 D_ : t.D = rD es
 good : Good t.D t.room
 bytes : ∀ e ∈ es, Sl w w.heap.size e.a e.bs.length e.c e.bs ∧ (0 < e.bs.length → ∀ b o, e.a = some ⟨b, o, none⟩ → O b ∧ b ≠ rp ∧ (Value.slice a es.length c).ownBlock ≠ some b)
 rpO : O rp
 ownO : ∀ g, (Value.slice a es.length c).ownBlock = some g → O g ∧ g ≠ rp
 lt : ∀ k, O k → k < w.heap.size
 fuse_ : -1 ≤ t.fuse ∧ t.fuse ≤ 9223372036854775807
 fails_ : 0 ≤ t.fails ∧ t.fails ≤ 9223372036854775807
def Rd (w : World) (rp : Nat) (t : St) (O : Nat → Prop) : Prop := ∃ a c es, RdC w rp t O a c es
section
variable {w w' : World} {rp : Nat} {t : St} {O P : Nat → Prop} {a : Option Addr} {c : Nat} {es : List REnt}
theorem RdC.same (h : RdC w rp t O a c es) (hk : ∀ k, O k → w'.heap[k]? = w.heap[k]?) (hz : w.heap.size ≤ w'.heap.size) : RdC w' rp t O a c es := by
 refine ⟨(hk rp h.rpO).trans h.cells, ⟨h.own.1, ?_⟩, h.D_, h.good, fun e he => ⟨(h.bytes e he).1.same_ hz (fun hp b o e' => hk b ((h.bytes e he).2 hp b o e').1), (h.bytes e he).2⟩, h.rpO, h.ownO, fun k hk' => Nat.lt_of_lt_of_le (h.lt k hk') hz, h.fuse_, h.fails_⟩
 rcases h.own.2 with h1 | ⟨g, cap, cur, e, h1, h2, h3⟩
 · exact .inl h1
 exact .inr ⟨g, cap, cur, e, h1, (hk g (h.ownO g (by rw [e]; rfl)).1).trans h2, h3⟩
theorem Rd.same (h : Rd w rp t O) (hk : ∀ k, O k → w'.heap[k]? = w.heap[k]?) (hz : w.heap.size ≤ w'.heap.size) : Rd w' rp t O := let ⟨a, c, es, h⟩ := h; ⟨a, c, es, h.same hk hz⟩
theorem RdC.below (h : RdC w rp t O a c es) (hb : Below w.heap.size w w') : RdC w' rp t O a c es := h.same (fun k hk => hb.block k (h.lt k hk)) hb.size
theorem Rd.below (h : Rd w rp t O) (hb : Below w.heap.size w w') : Rd w' rp t O := let ⟨a, c, es, h⟩ := h; ⟨a, c, es, h.below hb⟩
theorem Rd.lt (h : Rd w rp t O) : ∀ k, O k → k < w.heap.size := let ⟨_, _, _, h⟩ := h; h.lt
theorem Rd.good (h : Rd w rp t O) : Good t.D t.room := let ⟨_, _, _, h⟩ := h; h.good
theorem Rd.but (h : Rd w rp t O) (hb : But P w w') (hno : ∀ k, O k → ¬ P k) : Rd w' rp t O := h.same (fun k hk => hb.block k (h.lt k hk) (hno k hk)) hb.size
theorem RdC.cell (h : RdC w rp t O a c es) :
 w.cell? ⟨rp, 0, none⟩ = some (.int .i64 (t.room : Int)) ∧ w.cell? ⟨rp, 1, none⟩ = some (.slice a es.length c) ∧ w.cell? ⟨rp, 2, none⟩ = some (.int .i64 t.fuse) ∧ w.cell? ⟨rp, 3, none⟩ = some (.int .i64 t.fails) ∧ (∀ j, w.frozen? ⟨rp, j, none⟩ = false) :=
 ⟨(cell_of_row w rp 0 _ _ _ h.cells).trans rfl, (cell_of_row w rp 1 _ _ _ h.cells).trans rfl, (cell_of_row w rp 2 _ _ _ h.cells).trans rfl, (cell_of_row w rp 3 _ _ _ h.cells).trans rfl, fun j => frozen_of_row w rp j _ _ h.cells⟩
theorem RdC.at_ (h : RdC w rp t O a c es) (hp : 0 < es.length) : ∃ g, a = some ⟨g, 0, none⟩ ∧ O g ∧ g ≠ rp ∧ g < w.heap.size ∧ es.length ≤ c ∧ c ≤ maxLen ∧ ∀ (k : Nat) (e : REnt), es[k]? = some e → w.cell? ⟨g, k * 3, none⟩ = some (.string ⟨e.s.toArray⟩) ∧ w.cell? ⟨g, k * 3 + 1, none⟩ = some (.slice e.a e.bs.length e.c) ∧ w.cell? ⟨g, k * 3 + 2, none⟩ = some (.int .i64 (e.l : Int)) := by
 rcases h.own.2 with ⟨h1, h0⟩ | ⟨g, cap, cur, e, h1, h2, hn, hc, hsz, htk⟩
 · injection h1 with _ h2 _
   omega
 injection e with e1 e2 e3
 subst e1 e3
 have hO := h.ownO g rfl
 refine ⟨g, rfl, hO.1, hO.2, lt_of_heap h2, hn, hc, fun k e he => ?_⟩
 have hk := (List.getElem?_eq_some_iff.1 he).1
 obtain ⟨q1, q2, q3⟩ := rcells_get es k e he
 refine ⟨?_, ?_, ?_⟩
 · rw [World.ownsRow.cellAt h.own (k * 3) (by omega), q1]
 · rw [World.ownsRow.cellAt h.own (k * 3 + 1) (by omega), q2]
 rw [World.ownsRow.cellAt h.own (k * 3 + 2) (by omega), q3]
end
def ridx : List REnt → List UInt8 → Nat
 | [], _ => 0
 | e :: es, s => if e.s = s then 0 else ridx es s + 1
theorem ridx_le : ∀ (es : List REnt) (s : List UInt8), ridx es s ≤ es.length
 | [], _ => Nat.le_refl _
 | e :: es, s => by
  unfold ridx
  split
  · exact Nat.zero_le _
  have := ridx_le es s
  simp only [List.length_cons]
  omega
theorem ridx_skip : ∀ (es : List REnt) (s : List UInt8) (k : Nat), (∀ j e, j < k → es[j]? = some e → e.s ≠ s) → k ≤ es.length → k ≤ ridx es s
 | _, _, 0, _, _ => Nat.zero_le _
 | [], _, k + 1, _, h => by simp at h
 | e :: es, s, k + 1, hj, h => by
  unfold ridx
  rw [if_neg (hj 0 e (by omega) rfl)]
  have := ridx_skip es s k (fun j x hjk hx => hj (j + 1) x (by omega) hx) (by simpa using h)
  omega
theorem ridx_hit : ∀ (es : List REnt) (s : List UInt8) (k : Nat) (e : REnt), (∀ j e, j < k → es[j]? = some e → e.s ≠ s) → es[k]? = some e → e.s = s → ridx es s = k
 | [], _, k, _, _, h, _ => by simp at h
 | x :: es, s, 0, e, _, h, he => by
  have : x = e := by simpa using h
  subst this
  unfold ridx
  rw [if_pos he]
 | x :: es, s, k + 1, e, hj, h, he => by
  unfold ridx
  rw [if_neg (hj 0 x (by omega) rfl), ridx_hit es s k e (fun j y hjk hy => hj (j + 1) y (by omega) hy) (by simpa using h) he]
theorem ridx_fat : ∀ (es : List REnt) (s : List UInt8), fat (rD es) s = es[ridx es s]?.map REnt.fl
 | [], s => rfl
 | e :: es, s => by
  by_cases h : e.s = s
  · have e1 : ridx (e :: es) s = 0 := by unfold ridx; rw [if_pos h]
    rw [e1]
    have hk : (Lit.string e.s).sameKey (.string s) = true := by rw [h]; exact WideAt.sameKey_self (isKey_str s)
    unfold fat rD look
    simp only [List.map_cons, List.find?_cons, REnt.ent, hk]
    rfl
  have e1 : ridx (e :: es) s = ridx es s + 1 := by rw [ridx, if_neg h]
  rw [e1]
  have hk : (Lit.string e.s).sameKey (.string s) = false := sameKey_ne (fun h' => h (by injection h'))
  have ih := ridx_fat es s
  rw [List.getElem?_cons_succ, ← ih]
  unfold fat rD look
  simp only [List.map_cons, List.find?_cons, REnt.ent, hk]
theorem rD_tot : ∀ es : List REnt, tot (rD es) = (es.map fun e => e.bs.length).sum := by
 intro es
 unfold rD tot
 simp [lenOf, Function.comp_def]
theorem rD_names (es : List REnt) : strKeys (rD es) = es.map (·.s) := by
 rw [strKeys_keysL]
 simp [rD, keysL, Function.comp_def]
 intro e _
 rfl
theorem rD_size (es : List REnt) : size (rD es) = es.length := by simp [rD, size]
end
section
open Go.RowKit
open Go.Maps
attribute [local go_sem] Oper.semAt_some
theorem rnew_no (room : Int) (hr : ¬ (0 ≤ room ∧ room ≤ 1048576)) (w : World) : Calls Tryz.prog 7 #[.int .i64 room] w fun e w' => e = .returned (.pointer none) ∧ w = w' := by
 by_cases h0 : room < 0
 · go_enter Tryz.func7, Tryz.ntmps7
   go_wp2
   go_ret
   exact ⟨rfl, rfl⟩
 have h1 : 1048576 < room := by omega
 go_enter Tryz.func7, Tryz.ntmps7
 go_wp2
 go_ret
 exact ⟨rfl, rfl⟩
theorem rd_new (w : World) (room : Nat) (hr : room ≤ 1048576) : Rd (w.alloc (.cells #[.int .i64 (room : Int), .slice none 0 0, .int .i64 (-1), .int .i64 0] 75)) w.heap.size ⟨.map [], room, -1, 0⟩ (fun k => k = w.heap.size) :=
 ⟨none, 0, [], heap_alloc_new w _, World.ownsRow_nil _ _ _ _, rfl, Good.empty hr, fun e he => (by cases he), rfl, fun g hg => (by cases hg), fun k hk => by subst hk; simp, ⟨by show (-1 : Int) ≤ -1; omega, by show (-1 : Int) ≤ _; omega⟩, ⟨by show (0 : Int) ≤ 0; omega, by show (0 : Int) ≤ _; omega⟩⟩
theorem rnew_yes (room : Nat) (hr : room ≤ 1048576) (w : World) : Calls Tryz.prog 7 #[.int .i64 (room : Int)] w fun e w' => e = .returned (.pointer (some ⟨w.heap.size, 0, none⟩)) ∧ Below w.heap.size w w' ∧ Rd w' w.heap.size ⟨.map [], room, -1, 0⟩ (fun k => k = w.heap.size) := by
 have HD := Qh (rd_new w room hr)
 go_enter Tryz.func7, Tryz.ntmps7
 go_wp2
 go_ret
 exact ⟨rfl, Qb.alloc Qn _, HD.out⟩
section
variable {w : World} {rp : Nat} {t : St} {O : Nat → Prop} {a : Option Addr} {c : Nat} {es : List REnt}
theorem RdC.set_ (h : RdC w rp t O a c es) (j : Nat) (u : Value) {fuse' fails' : Int} (hc : ((#[.int .i64 (t.room : Int), .slice a es.length c, .int .i64 t.fuse, .int .i64 t.fails] : Array Value).setIfInBounds j u) = #[.int .i64 (t.room : Int), .slice a es.length c, .int .i64 fuse', .int .i64 fails'])
 (hf : -1 ≤ fuse' ∧ fuse' ≤ 9223372036854775807) (hl : 0 ≤ fails' ∧ fails' ≤ 9223372036854775807) : RdC (w.setCell ⟨rp, j, none⟩ u) rp ⟨t.D, t.room, fuse', fails'⟩ O a c es := by
 have hs := heap_setCell_same w rp j _ _ u h.cells
 rw [hc] at hs
 have hz : w.heap.size ≤ (w.setCell ⟨rp, j, none⟩ u).heap.size := by simp [World.setCell]
 have hoth : ∀ k, k ≠ rp → (w.setCell ⟨rp, j, none⟩ u).heap[k]? = w.heap[k]? := fun k hk => Below.heap_setCell w ⟨rp, j, none⟩ u k hk
 refine ⟨hs, ⟨h.own.1, ?_⟩, h.D_, h.good, fun e he => ⟨(h.bytes e he).1.same_ hz (fun hp b o e' => hoth b ((h.bytes e he).2 hp b o e').2.1), (h.bytes e he).2⟩, h.rpO, h.ownO, fun k ho => by simpa [World.setCell] using h.lt k ho, hf, hl⟩
 rcases h.own.2 with h1 | ⟨g, cap, cur, e, h1, h2, h3⟩
 · exact .inl h1
 exact .inr ⟨g, cap, cur, e, h1, (hoth g (h.ownO g (by rw [e]; rfl)).2).trans h2, h3⟩
theorem rcall_dead (h : RdC w rp t O a c es) (hf : t.fuse = 0) : Calls Tryz.prog 117 #[.pointer (some ⟨rp, 0, none⟩)] w fun e w' => e = .returned (.bool false) ∧ w = w' := by
 have c2 := h.cell.2.2.1
 rw [hf] at c2
 clear h hf
 go_enter Tryz.func117, Tryz.ntmps117
 go_wp2
 go_ret
 exact ⟨rfl, rfl⟩
theorem rcall_do (h : RdC w rp t O a c es) (hf : t.fuse ≠ 0) : Calls Tryz.prog 117 #[.pointer (some ⟨rp, 0, none⟩)] w fun e w' => e = .returned (.bool true) ∧ RdC w' rp t.burnt O a c es ∧ But O w w' := by
 have c2 := h.cell.2.2.1
 have c3 := h.cell.2.2.2.2 2
 have hfb := h.fuse_
 have hn : (t.fuse == 0) = false := by simp [hf]
 by_cases hp : 0 < t.fuse
 · have hb : t.burnt = ⟨t.D, t.room, t.fuse - 1, t.fails⟩ := by unfold St.burnt burn; rw [if_pos hp]
   rw [hb]
   have h1 := h.set_ 2 (.int .i64 (t.fuse - 1)) (fuse' := t.fuse - 1) (fails' := t.fails) rfl (by omega) h.fails_
   have HK := Qh (Qa h1 ((But.refl O w).setCell (p := ⟨rp, 2, none⟩) (.inl h.rpO) (.int .i64 (t.fuse - 1))))
   have hw : IntKind.i64.wrap (t.fuse - 1) = t.fuse - 1 := by rw [IntKind.wrap_i64]; omega
   clear h hb h1 hfb
   generalize t.fuse = fz at *
   go_enter Tryz.func117, Tryz.ntmps117
   go_wp2
   go_ret
   exact ⟨rfl, HK.out.1, HK.out.2⟩
 have hb : t.burnt = t := by unfold St.burnt burn; rw [if_neg hp]
 rw [hb]
 have HK := Qh h
 clear h hb hfb
 generalize hfz : t.fuse = fz at *
 have Hfz := Qh hfz
 clear hfz
 go_enter Tryz.func117, Tryz.ntmps117
 go_wp2
 go_ret
 exact ⟨rfl, HK.out, But.refl _ _⟩
theorem rfuse_any (h : RdC w rp t O a c es) (n : Int) (hn : n ≤ 9223372036854775807) :
 Calls Tryz.prog 45 #[.pointer (some ⟨rp, 0, none⟩), .int .i64 n] w fun e w' => e = .returned (.tuple #[]) ∧ RdC w' rp (t.fuse_ n) O a c es ∧ But O w w' := by
 have c2 := h.cell.2.2.1
 have z2 := h.cell.2.2.2.2 2
 have hm := fun (x : World) => max2_any n (-1) x
 have h2 := h.set_ 2 (.int .i64 (max n (-1))) (fuse' := max n (-1)) (fails' := t.fails) rfl (by omega) h.fails_
 have H := Qh (Qa h2 ((But.refl O w).setCell (p := ⟨rp, 2, none⟩) (.inl h.rpO) (.int .i64 (max n (-1)))))
 have HF : Hid (t.fuse_ n = ⟨t.D, t.room, max n (-1), t.fails⟩) := rfl
 clear h h2 hn
 generalize max n (-1) = m at *
 go_enter Tryz.func45, Tryz.ntmps45
 go_wp2
 go_end0
 exact ⟨rfl, by rw [HF.out]; exact H.out.1, H.out.2⟩
theorem rfail_any (h : RdC w rp t O a c es) (n : Int) (hn : n ≤ 9223372036854775807) :
 Calls Tryz.prog 46 #[.pointer (some ⟨rp, 0, none⟩), .int .i64 n] w fun e w' => e = .returned (.tuple #[]) ∧ RdC w' rp (t.fail_ n) O a c es ∧ But O w w' := by
 have c2 := h.cell.2.2.2.1
 have z2 := h.cell.2.2.2.2 3
 have hm := fun (x : World) => max2_any n 0 x
 have h2 := h.set_ 3 (.int .i64 (max n 0)) (fuse' := t.fuse) (fails' := max n 0) rfl h.fuse_ (by omega)
 have H := Qh (Qa h2 ((But.refl O w).setCell (p := ⟨rp, 3, none⟩) (.inl h.rpO) (.int .i64 (max n 0))))
 have HF : Hid (t.fail_ n = ⟨t.D, t.room, t.fuse, max n 0⟩) := rfl
 clear h h2 hn
 generalize max n 0 = m at *
 go_enter Tryz.func46, Tryz.ntmps46
 go_wp2
 go_end0
 exact ⟨rfl, by rw [HF.out]; exact H.out.1, H.out.2⟩
theorem ba_listR {a b : ByteArray} (h : a.data.toList = b.data.toList) : a = b := by
 obtain ⟨⟨x⟩⟩ := a
 obtain ⟨⟨y⟩⟩ := b
 have h : x = y := h
 rw [h]
theorem str_eqR {a b : ByteArray} (h : a = b) : (a.toList == b.toList) = true := by rw [h]; simp
theorem str_neR {a b : ByteArray} (h : ¬ a = b) : (a.toList == b.toList) = false := by
 rw [beq_eq_false_iff_ne]
 intro e
 rw [ByteArray.toList_eq, ByteArray.toList_eq] at e
 exact h (ba_listR e)
def ratI (es : List REnt) (s : List UInt8) : Int := if ridx es s < es.length then ((ridx es s : Nat) : Int) else -1
theorem rat_any (h : RdC w rp t O a c es) (s : ByteArray) : Calls Tryz.prog 100 #[.pointer (some ⟨rp, 0, none⟩), .string s] w fun e w' => e = .returned (.int .i64 (ratI es s.data.toList)) ∧ w = w' := by
 have c1 := h.cell.2.1
 have hcap : es.length ≤ 9223372036854775807 := by
  by_cases hp : 0 < es.length
  · obtain ⟨g, _, _, _, _, h1, h2, _⟩ := h.at_ hp
    unfold maxLen at h2
    omega
  omega
 have HH := Qh h
 clear h
 obtain ⟨n, hn⟩ : ∃ n, n = es.length := ⟨_, rfl⟩
 rw [← hn] at c1 hcap
 have HN := Qh hn
 clear hn
 go_enter Tryz.func100, Tryz.ntmps100
 go_wp2_with fail
 go_loopw [5] (fun i wr => ∃ k : Nat, k ≤ n ∧ i = .int .i64 (k : Int) ∧ (∀ j e, j < k → es[j]? = some e → e.s ≠ s.data.toList) ∧ wr = w) (fun i _ => n - (intOf i).toNat)
 case atStart => exact ⟨0, Nat.zero_le _, rfl, fun j e hj => by omega, rfl⟩
 case round =>
  obtain ⟨k, hk, rfl, hno, rfl⟩ := hrel
  by_cases hlt : k < n
  · obtain ⟨g, hg, _, _, _, _, _, hc⟩ := HH.out.at_ (by have := HN.out; omega)
    subst hg
    have hke : k < es.length := by have := HN.out; omega
    have q0 := (hc k es[k] (List.getElem?_eq_getElem hke)).1
    obtain ⟨e0, he0⟩ : ∃ e0, e0 = es[k] := ⟨_, rfl⟩
    rw [← he0] at q0
    have HE := Qh (show es[k]? = some e0 by rw [he0]; exact List.getElem?_eq_getElem hke)
    have HNo := Qh hno
    clear hc hno he0 hke
    by_cases hs : (⟨e0.s.toArray⟩ : ByteArray) = s
    · have hes : e0.s = s.data.toList := by rw [← hs]
      have Hr := Qh (show ratI es s.data.toList = (k : Int) by
       unfold ratI
       rw [ridx_hit es _ k e0 HNo.out HE.out hes, if_pos (by have := HN.out; omega)])
      have hb := str_eqR hs
      have hb2 : (e0.s == s.toList) = true := by rw [hes, ByteArray.toList_eq]; simp
      clear hs hes
      go_wp2
      go_ret
      exact ⟨ret_i64 Hr.out.symm, rfl⟩
    have hb := str_neR hs
    have hes : e0.s ≠ s.data.toList := fun h' => hs (by
     apply ByteArray.ext
     show e0.s.toArray = s.data
     rw [h'])
    have hb2 : (e0.s == s.toList) = false := by rw [ByteArray.toList_eq, beq_eq_false_iff_ne]; exact hes
    have Hes := Qh hes
    clear hes
    go_wp2
    go_roundw
    case measure => simp [intOf]; omega
    case rel =>
    refine ⟨k + 1, by omega, by go_num, fun j e hj he => ?_, by trivial⟩
    by_cases hjk : j = k
    · subst hjk
      have := he.symm.trans HE.out
      injection this with this
      rw [this]
      exact Hes.out
    exact HNo.out j e (by omega) he
  have hkn : k = n := by omega
  have Hr := Qh (show ratI es s.data.toList = -1 by
   unfold ratI
   have h1 := ridx_skip es s.data.toList k hno (by have := HN.out; omega)
   rw [if_neg (by have := HN.out; omega)])
  clear hno
  go_wp2
  go_ret
  exact ⟨ret_i64 Hr.out.symm, rfl⟩
end
end
section
open Go.RowKit Go.Sort
open Go.Maps
attribute [local go_sem] Oper.semAt_some
theorem rname_any (s : ByteArray) (hs : s.size ≤ maxLen) (w : World) : Calls Tryz.prog 118 #[.string s] w fun e w' => e = .returned (.bool (nmOk s.data.toList)) ∧ w = w' := by
 unfold maxLen at hs
 have hlen : s.data.toList.length = s.size := by simp
 have Hn : Hid (nmOk s.data.toList = (decide (1 ≤ s.size ∧ s.size ≤ 16) && s.data.toList.all fun c => chOk c.toNat)) := by
  show _ = _
  unfold nmOk
  rw [hlen]
 go_enter Tryz.func118, Tryz.ntmps118
 go_wp2_with fail
 go_loopw [3, 4] (fun i _ wr => ∃ k : Nat, k ≤ s.size ∧ i = .int .i64 (k : Int) ∧ ((s.data.toList.take k).all fun c => chOk c.toNat) = true ∧ wr = w) (fun i _ _ => s.size - (intOf i).toNat)
 case atStart => exact ⟨0, Nat.zero_le _, rfl, rfl, rfl⟩
 case round =>
  obtain ⟨k, hk, rfl, hall, rfl⟩ := hrel
  by_cases hlt : k < s.size
  · have hts : s.data.toList.take (k + 1) = s.data.toList.take k ++ [s[k]] := by
     rw [List.take_succ_eq_append_getElem (by simpa using hlt)]; rfl
    have Ha : Hid (((s.data.toList.take (k + 1)).all fun c => chOk c.toNat) = chOk s[k].toNat) := by
     show _ = _
     rw [hts, List.all_append, hall]; simp
    have Hf : Hid (chOk s[k].toNat = false → (s.data.toList.all fun c => chOk c.toNat) = false) := by
     intro hf
     rw [List.all_eq_false]
     exact ⟨s[k], by have : s[k] = s.data.toList[k]'(by simpa using hlt) := rfl
                     rw [this]; exact List.getElem_mem _, by simp [hf]⟩
    clear hts hall
    go_upto_region 5 with fail
    go_cut [36] from 14 to 36 (fun v wx => v = .bool (!chOk s[k].toNat) ∧ wx = wr)
    case first =>
     clear Ha Hf Hn
     generalize s[k].toNat = cc at *
     by_cases g1 : 97 ≤ cc
     · by_cases g2 : cc ≤ 122
       · have f1 : decide ((97 : Int) ≤ (cc : Int)) = true := by simp <;> omega
         have f2 : decide ((cc : Int) ≤ 122) = true := by simp <;> omega
         have Hv := Qh (show chOk cc = true by unfold chOk; simp <;> omega)
         clear g1 g2
         go_wp2
         go_meet
         case rel => exact ⟨congrArg Value.bool (by rw [Hv.out]; rfl), rfl⟩
       have g3 : 48 ≤ cc := by omega
       have f1 : decide ((97 : Int) ≤ (cc : Int)) = true := by simp <;> omega
       have f2 : decide ((cc : Int) ≤ 122) = false := by simp <;> omega
       have f3 : decide ((48 : Int) ≤ (cc : Int)) = true := by simp <;> omega
       have f4 : decide ((cc : Int) ≤ 57) = false := by simp <;> omega
       have f5 : ((cc : Int) == 46) = false := by simp <;> omega
       have f6 : ((cc : Int) == 45) = false := by simp <;> omega
       have Hv := Qh (show chOk cc = false by unfold chOk; simp <;> omega)
       clear g1 g2 g3
       go_wp2
       go_meet
       case rel => exact ⟨congrArg Value.bool (by rw [Hv.out]; rfl), rfl⟩
     by_cases g3 : 48 ≤ cc
     · by_cases g4 : cc ≤ 57
       · have f1 : decide ((97 : Int) ≤ (cc : Int)) = false := by simp <;> omega
         have f3 : decide ((48 : Int) ≤ (cc : Int)) = true := by simp <;> omega
         have f4 : decide ((cc : Int) ≤ 57) = true := by simp <;> omega
         have Hv := Qh (show chOk cc = true by unfold chOk; simp <;> omega)
         clear g1 g3 g4
         go_wp2
         go_meet
         case rel => exact ⟨congrArg Value.bool (by rw [Hv.out]; rfl), rfl⟩
       have f1 : decide ((97 : Int) ≤ (cc : Int)) = false := by simp <;> omega
       have f3 : decide ((48 : Int) ≤ (cc : Int)) = true := by simp <;> omega
       have f4 : decide ((cc : Int) ≤ 57) = false := by simp <;> omega
       have f5 : ((cc : Int) == 46) = false := by simp <;> omega
       have f6 : ((cc : Int) == 45) = false := by simp <;> omega
       have Hv := Qh (show chOk cc = false by unfold chOk; simp <;> omega)
       clear g1 g3 g4
       go_wp2
       go_meet
       case rel => exact ⟨congrArg Value.bool (by rw [Hv.out]; rfl), rfl⟩
     by_cases g5 : cc = 46
     · have f1 : decide ((97 : Int) ≤ (cc : Int)) = false := by simp <;> omega
       have f3 : decide ((48 : Int) ≤ (cc : Int)) = false := by simp <;> omega
       have f5 : ((cc : Int) == 46) = true := by simp <;> omega
       have Hv := Qh (show chOk cc = true by unfold chOk; simp <;> omega)
       clear g1 g3 g5
       go_wp2
       go_meet
       case rel => exact ⟨congrArg Value.bool (by rw [Hv.out]; rfl), rfl⟩
     by_cases g6 : cc = 45
     · have f1 : decide ((97 : Int) ≤ (cc : Int)) = false := by simp <;> omega
       have f3 : decide ((48 : Int) ≤ (cc : Int)) = false := by simp <;> omega
       have f5 : ((cc : Int) == 46) = false := by simp <;> omega
       have f6 : ((cc : Int) == 45) = true := by simp <;> omega
       have Hv := Qh (show chOk cc = true by unfold chOk; simp <;> omega)
       clear g1 g3 g5 g6
       go_wp2
       go_meet
       case rel => exact ⟨congrArg Value.bool (by rw [Hv.out]; rfl), rfl⟩
     have f1 : decide ((97 : Int) ≤ (cc : Int)) = false := by simp <;> omega
     have f3 : decide ((48 : Int) ≤ (cc : Int)) = false := by simp <;> omega
     have f5 : ((cc : Int) == 46) = false := by simp <;> omega
     have f6 : ((cc : Int) == 45) = false := by simp <;> omega
     have Hv := Qh (show chOk cc = false by unfold chOk; simp <;> omega)
     clear g1 g3 g5 g6
     go_wp2
     go_meet
     case rel => exact ⟨congrArg Value.bool (by rw [Hv.out]; rfl), rfl⟩
    case rest =>
     obtain ⟨rfl, rfl⟩ := hcut
     cases hb : chOk s[k].toNat
     · have Hr := Qh (show nmOk s.data.toList = false by rw [Hn.out, Hf.out hb, Bool.and_false])
       clear hb Ha Hf Hn
       go_wp2
       go_ret
       exact ⟨ret_bool Hr.out.symm, rfl⟩
     have Ha := Qh (Ha.out.trans hb)
     clear hb Hf
     go_wp2
     go_roundw
     case rel => exact ⟨k + 1, by omega, by go_num, Ha.out, by trivial⟩
     case measure => simp [intOf]; omega
  have hkn : k = s.size := by omega
  subst hkn
  rw [List.take_of_length_le (by simp)] at hall
  have Hr := Qh (show nmOk s.data.toList = decide (1 ≤ s.size ∧ s.size ≤ 16) by rw [Hn.out, hall, Bool.and_true])
  clear hall Hn
  by_cases h1 : 1 ≤ s.size
  · by_cases h2 : s.size ≤ 16
    · go_wp2
      go_ret
      exact ⟨ret_bool (by rw [Hr.out]; simp [h1, h2] <;> omega), rfl⟩
    go_wp2
    go_ret
    exact ⟨ret_bool (by rw [Hr.out]; simp [h2] <;> omega), rfl⟩
  go_wp2
  go_ret
  exact ⟨ret_bool (by rw [Hr.out]; simp [h1] <;> omega), rfl⟩
section
variable {w : World} {rp : Nat} {t : St} {O : Nat → Prop} {a : Option Addr} {c : Nat} {es : List REnt}
theorem RdC.len_ (h : RdC w rp t O a c es) : es.length ≤ 64 := by
 have h1 := h.good.size_
 rw [h.D_, rD_size] at h1
 exact h1
theorem sum_take_le (es : List REnt) : ∀ k, ((es.take k).map fun e => e.bs.length).sum ≤ (es.map fun e => e.bs.length).sum := by
 induction es with
 | nil => intro k; simp
 | cons e es ih =>
  intro k
  cases k with
  | zero => simp
  | succ k => have := ih k; simp only [List.take_succ_cons, List.map_cons, List.sum_cons]; omega
theorem rused_any (h : RdC w rp t O a c es) : Calls Tryz.prog 121 #[.pointer (some ⟨rp, 0, none⟩)] w fun e w' => e = .returned (.int .i64 ((tot t.D : Nat) : Int)) ∧ w = w' := by
 have c1 := h.cell.2.1
 have hcap := h.len_
 have HT : Hid (tot t.D = (es.map fun e => e.bs.length).sum) := by show _ = _; rw [h.D_, rD_tot]
 have hmx : (es.map fun e => e.bs.length).sum ≤ 1048576 := by
  have h1 := h.good.tot_
  have h2 := h.good.room_
  rw [HT.out] at h1
  omega
 have HS := Qh (Qa (sum_take_le es) hmx)
 have HH := Qh h
 clear h hmx
 obtain ⟨n, hn⟩ : ∃ n, n = es.length := ⟨_, rfl⟩
 rw [← hn] at c1 hcap
 have HN := Qh hn
 clear hn
 go_enter Tryz.func121, Tryz.ntmps121
 go_wp2_with fail
 go_loopw [3, 4] (fun v i wr => ∃ (k u : Nat), k ≤ n ∧ i = .int .i64 (k : Int) ∧ v = .int .i64 (u : Int) ∧ u = ((es.take k).map fun e => e.bs.length).sum ∧ wr = w) (fun _ i _ => n - (intOf i).toNat)
 case atStart => exact ⟨0, 0, Nat.zero_le _, rfl, rfl, by simp, rfl⟩
 case round =>
  obtain ⟨k, u, hk, rfl, rfl, hu, rfl⟩ := hrel
  by_cases hlt : k < n
  · obtain ⟨g, hg, _, _, _, _, _, hc⟩ := HH.out.at_ (by have := HN.out; omega)
    subst hg
    have hke : k < es.length := by have := HN.out; omega
    have q1 := (hc k es[k] (List.getElem?_eq_getElem hke)).2.1
    have hst : ((es.take (k + 1)).map fun e => e.bs.length).sum = u + es[k].bs.length := by rw [List.take_succ_eq_append_getElem hke, List.map_append, List.sum_append, ← hu]; simp only [List.map_cons, List.map_nil, List.sum_cons, List.sum_nil, Nat.add_zero]
    have hle := HS.out.1 (k + 1)
    have hle2 := HS.out.2
    rw [hst] at hle
    obtain ⟨e0, he0⟩ : ∃ e0, e0 = es[k] := ⟨_, rfl⟩
    rw [← he0] at q1 hst hle
    obtain ⟨m, hm⟩ : ∃ m, m = e0.bs.length := ⟨_, rfl⟩
    rw [← hm] at q1 hst hle
    have hw : IntKind.i64.wrap ((u : Int) + (m : Int)) = ((u + m : Nat) : Int) := by rw [IntKind.wrap_i64]; omega
    have Hst := Qh hst
    clear hc hu he0 hke hm hst
    go_wp2
    go_roundw
    case rel => exact ⟨k + 1, u + m, by omega, by go_num, rfl, Hst.out.symm, by trivial⟩
    case measure => simp [intOf]; omega
  have hkn : k = n := by omega
  have Hu := Qh (show u = tot t.D by rw [hu, List.take_of_length_le (by have := HN.out; omega), HT.out])
  clear hu
  go_wp2
  go_ret
  exact ⟨ret_i64 (by rw [Hu.out]), rfl⟩
theorem RdC.here (h : RdC w rp t O a c es) {s : List UInt8} (hi : ridx es s < es.length) : ∃ e g, es[ridx es s]? = some e ∧ fat t.D s = some e.fl ∧ a = some ⟨g, 0, none⟩ ∧ g < w.heap.size ∧ w.cell? ⟨g, ridx es s * 3, none⟩ = some (.string ⟨e.s.toArray⟩) ∧ w.cell? ⟨g, ridx es s * 3 + 1, none⟩ = some (.slice e.a e.bs.length e.c) ∧ w.cell? ⟨g, ridx es s * 3 + 2, none⟩ = some (.int .i64 (e.l : Int)) ∧ Sl w w.heap.size e.a e.bs.length e.c e.bs := by
 obtain ⟨g, hg, _, _, hlt, _, _, hc⟩ := h.at_ (by omega)
 have he := List.getElem?_eq_getElem hi
 obtain ⟨q0, q1, q2⟩ := hc _ _ he
 refine ⟨_, g, he, ?_, hg, hlt, q0, q1, q2, (h.bytes _ (List.mem_of_getElem? he)).1⟩
 rw [h.D_, ridx_fat, he]
 rfl
theorem RdC.gone_ (h : RdC w rp t O a c es) {s : List UInt8} (hi : ¬ ridx es s < es.length) : fat t.D s = none := by
 rw [h.D_, ridx_fat, List.getElem?_eq_none (by omega)]
 rfl
theorem rsynced_any (h : RdC w rp t O a c es) (s : ByteArray) : Calls Tryz.prog 53 #[.pointer (some ⟨rp, 0, none⟩), .string s] w fun e w' => e = .returned (.int .i64 (((fat t.D s.data.toList).getD Fl.zero).l : Int)) ∧ w = w' := by
 have AT := rat_any h s
 have c1 := h.cell.2.1
 have hcap := h.len_
 by_cases hi : ridx es s.data.toList < es.length
 · obtain ⟨e, g, _, hf, hg, _, _, _, q2, _⟩ := h.here hi
   subst hg
   rw [hf]
   unfold ratI at AT
   rw [if_pos hi] at AT
   generalize ridx es s.data.toList = k at *
   have AT := Qh AT
   obtain ⟨n, hn⟩ : ∃ n, n = es.length := ⟨_, rfl⟩
   rw [← hn] at c1 hi hcap
   clear h hn
   go_enter Tryz.func53, Tryz.ntmps53
   go_wp2_with fail
   refine AT.out.mono ?_
   rintro e1 w1 ⟨rfl, rfl⟩
   go_wp2
   go_ret
   exact ⟨rfl, rfl⟩
 rw [h.gone_ hi]
 unfold ratI at AT
 rw [if_neg hi] at AT
 have AT := Qh AT
 clear h
 go_enter Tryz.func53, Tryz.ntmps53
 go_wp2_with fail
 refine AT.out.mono ?_
 rintro e1 w1 ⟨rfl, rfl⟩
 go_wp2
 go_ret
 exact ⟨rfl, rfl⟩
theorem rread1_any (h : RdC w rp t O a c es) (s : ByteArray) : Calls Tryz.prog 51 #[.pointer (some ⟨rp, 0, none⟩), .string s] w (NewBytes w ((fat t.D s.data.toList).getD Fl.zero).bs (fat t.D s.data.toList).isSome) := by
 have AT := rat_any h s
 have c1 := h.cell.2.1
 have hcap := h.len_
 by_cases hi : ridx es s.data.toList < es.length
 · obtain ⟨e, g, _, hf, hg, hgl, _, q1, _, hs⟩ := h.here hi
   subst hg
   have hbl : e.bs.length ≤ 1048576 := by
    have h1 := (h.good.at_ hf).2.2.2
    have h2 := h.good.tot_
    have h3 := h.good.room_
    exact Nat.le_trans h1 (Nat.le_trans h2 h3)
   have hrl := block_lt_of_cell c1
   rw [hf]
   unfold ratI at AT
   rw [if_pos hi] at AT
   generalize ridx es s.data.toList = k at *
   have AT := Qh AT
   obtain ⟨n, hn⟩ : ∃ n, n = es.length := ⟨_, rfl⟩
   rw [← hn] at c1 hi hcap
   show Calls _ _ _ _ (NewBytes w e.bs true)
   obtain ⟨m, hm⟩ : ∃ m, m = e.bs.length := ⟨_, rfl⟩
   rw [← hm] at q1 hs hbl
   have Hm := Qh hm
   have hB : Below w.heap.size w (w.alloc (.cells #[] 5)) := Qb.alloc Qn _
   have k1 := (hB.cell (p := ⟨rp, 1, none⟩) hrl).trans c1
   have k2 := (hB.cell (p := ⟨g, k * 3 + 1, none⟩) hgl).trans q1
   have hown : OwnB (w.alloc (.cells #[] 5)) w.heap.size 5 (.slice (some ⟨w.heap.size, 0, none⟩) 0 0) [] := OwnB.lit _ [] Qn (by decide)
   have H4 := Qh (Qa hown (hs.below hB Qn))
   clear h hn hf hm hown hs hB c1 q1
   go_enter Tryz.func51, Tryz.ntmps51
   go_wp2_with fail
   refine AT.out.mono ?_
   rintro e1 w1 ⟨rfl, rfl⟩
   go_wp2_with (first
    | (at_builtin; refine wpList_append_sl rfl _ _ 38 rfl w.heap.size _ Tryz.underlying38 info_u8 (.slice (some ⟨w.heap.size, 0, none⟩) 0 0) [] rfl H4.out.1 _ e.a m e.c e.bs rfl H4.out.2 (by simp; omega) (by simp) ?_; intro v5 w5 ho5 hg5 hat5; rw [List.nil_append] at ho5; have hB5 : Below w.heap.size w w5 := ((Below.refl _ w).alloc Qn (.cells #[] 5)).grown hg5 (by simp) (fun k hk => by simp [Value.ownBlock] at hk; omega); have H5 := Qh (Qa ho5 hB5); clear ho5 hB5 hg5 hat5)
    | fail)
   obtain ⟨a5, c5, hv5⟩ : ∃ a5 c5, v5 = .slice a5 e.bs.length c5 := by
    rcases H5.out.1.2 with ⟨h1, h2⟩ | ⟨g1, cap1, _, h1, _⟩
    · exact ⟨none, 0, by rw [h1, h2]⟩
    exact ⟨_, cap1, h1⟩
   subst hv5
   go_wp2
   go_ret2
   exact ⟨a5, c5, rfl, H5.out.1, H5.out.2⟩
 rw [h.gone_ hi]
 unfold ratI at AT
 rw [if_neg hi] at AT
 have AT := Qh AT
 clear h
 go_enter Tryz.func51, Tryz.ntmps51
 go_wp2_with fail
 refine AT.out.mono ?_
 rintro e1 w1 ⟨rfl, rfl⟩
 go_wp2
 go_ret2
 exact ⟨none, 0, rfl, OwnB.nil_ _ _ _, Below.refl _ _⟩
end
end
section
open Go.RowKit
open Go.Maps
attribute [local go_sem] Oper.semAt_some
structure RFs (w : World) (a : Option Addr) (n c : Nat) (es : List REnt) : Prop where
 len : es.length = n
 le : n ≤ c
 max : c ≤ maxLen
 none_ : a = none → n = 0 ∧ c = 0
 at_ : a ≠ none → ∃ g o, a = some ⟨g, o, none⟩ ∧ g < w.heap.size ∧ ∀ j u, (rcells es)[j]? = some u → w.cell? ⟨g, o + j, none⟩ = some u
def OwnFl (w : World) (base : Nat) (v : Value) (es : List REnt) : Prop := w.ownsRow base 124 3 v es.length (rcells es)
theorem info_file : (Tryz.prog.info? 124).map (fun i => (i.zero, i.size, i.bytes)) = some (some (.agg #[.string ⟨#[]⟩, .slice none 0 0, .int .i64 0]), 3, 48) := by kernel_rfl
theorem rcells_one (es : List REnt) : ∀ u ∈ rcells es, u.oneCell' = true := by
 intro u hu
 obtain ⟨e, _, he⟩ := List.mem_flatMap.1 hu
 simp [REnt.cells] at he
 rcases he with rfl | rfl | rfl <;> rfl
theorem OwnFl.rfs {w : World} {base : Nat} {a : Option Addr} {n c : Nat} {es : List REnt} (h : OwnFl w base (.slice a n c) es) : RFs w a n c es := by
 rcases h.2 with ⟨h1, h0⟩ | ⟨g, cap, cur, e, h1, h2, hn, hc, hsz, htk⟩
 · injection h1 with e1 e2 e3
   subst e1 e2 e3
   exact ⟨h0, Nat.le_refl _, by simp [maxLen], fun _ => ⟨rfl, rfl⟩, fun hne => absurd rfl hne⟩
 injection e with e1 e2 e3
 subst e1 e2 e3
 refine ⟨rfl, hn, hc, (fun e => by cases e), fun _ => ⟨g, 0, rfl, lt_of_heap h2, fun j u hj => ?_⟩⟩
 have hj' := (List.getElem?_eq_some_iff.1 hj).1
 rw [rcells_len] at hj'
 rw [Nat.zero_add, World.ownsRow.cellAt h j (by omega), hj]
theorem OwnFl.form {w : World} {base : Nat} {v : Value} {es : List REnt} (h : OwnFl w base v es) : ∃ a c, v = .slice a es.length c := by
 rcases h.2 with ⟨h1, h0⟩ | ⟨g, cap, cur, e, _⟩
 · exact ⟨none, 0, by rw [h1, h0]⟩
 exact ⟨_, cap, e⟩
theorem OwnFl.at_base {w : World} {base : Nat} {v : Value} {es : List REnt} (h : OwnFl w base v es) {b : Nat} (hb : v.ownBlock = some b) : base ≤ b ∧ b < w.heap.size := by
 rcases h.2 with ⟨rfl, _⟩ | ⟨g, cap, cur, rfl, h2, h3, _⟩
 · cases hb
 injection hb with hb
 subst hb
 exact ⟨h2, lt_of_heap h3⟩
theorem RFs.below {w w' : World} {a : Option Addr} {n c : Nat} {es : List REnt} (h : RFs w a n c es) (hb : Below w.heap.size w w') : RFs w' a n c es :=
 ⟨h.len, h.le, h.max, h.none_, fun hne => by
  obtain ⟨g, o, e, hlt, hc⟩ := h.at_ hne
  exact ⟨g, o, e, Nat.lt_of_lt_of_le hlt hb.size, fun j u hj => (hb.cell (p := ⟨g, o + j, none⟩) hlt).trans (hc j u hj)⟩⟩
theorem RFs.take {w : World} {a : Option Addr} {n c : Nat} {es : List REnt} (h : RFs w a n c es) {k : Nat} (hk : k ≤ n) : RFs w a k c (es.take k) :=
 ⟨by rw [List.length_take, h.len]; omega, Nat.le_trans hk h.le, h.max, fun e => by have := h.none_ e; omega, fun hne => by
  obtain ⟨g, o, e, hlt, hc⟩ := h.at_ hne
  refine ⟨g, o, e, hlt, fun j u hj => hc j u ?_⟩
  have e2 : rcells es = rcells (es.take k) ++ rcells (es.drop k) := by rw [← rcells_append, List.take_append_drop]
  rw [e2, List.getElem?_append_left (List.getElem?_eq_some_iff.1 hj).1]
  exact hj⟩
def fromA3 (a : Option Addr) (c k : Nat) : Option Addr := if c = k then a else a.map (·.add (k * 3))
theorem RFs.from_ {w : World} {a : Option Addr} {n c : Nat} {es : List REnt} (h : RFs w a n c es) {k : Nat} (hk : k ≤ n) : RFs w (fromA3 a c k) (n - k) (c - k) (es.drop k) := by
 have hle := h.le
 refine ⟨by rw [List.length_drop, h.len], by omega, by have := h.max; omega, fun e => ?_, fun hne => ?_⟩
 · unfold fromA3 at e
   split at e
   · have := h.none_ e; omega
   cases a with
   | none => have := h.none_ rfl; omega
   | some ad => simp at e
 by_cases hck : c = k
 · unfold fromA3 at hne ⊢
   rw [if_pos hck] at hne ⊢
   obtain ⟨g, o, e, hlt, _⟩ := h.at_ hne
   refine ⟨g, o, e, hlt, fun j u hj => ?_⟩
   rw [List.drop_of_length_le (by rw [h.len]; omega)] at hj
   simp [rcells] at hj
 unfold fromA3 at hne ⊢
 rw [if_neg hck] at hne ⊢
 have hne' : a ≠ none := fun e => hne (by rw [e]; rfl)
 obtain ⟨g, o, e, hlt, hc⟩ := h.at_ hne'
 subst e
 refine ⟨g, o + k * 3, by show some (Addr.add ⟨g, o, none⟩ (k * 3)) = _; rw [Addr.add_mid], hlt, fun j u hj => ?_⟩
 rw [Nat.add_assoc]
 refine hc (k * 3 + j) u ?_
 have e2 : rcells es = rcells (es.take k) ++ rcells (es.drop k) := by rw [← rcells_append, List.take_append_drop]
 have e3 : (rcells (es.take k)).length = k * 3 := by rw [rcells_len, List.length_take, h.len, Nat.min_eq_left hk]
 rw [e2, List.getElem?_append_right (by omega), e3, Nat.add_sub_cancel_left]
 exact hj
section
variable {P : Program} (t e : TypeId) (ht : P.underlying t = some (.slice e)) {z : Value} {by_ : Nat} (hi : (P.info? e).map (fun i => (i.zero, i.size, i.bytes)) = some (some z, 3, by_))
include ht hi
theorem run_cut3_to (a : Option Addr) (len cap k : Nat) (hk : k ≤ cap) (w : World) :
 (Instr.slice t (.slice a len cap) none (some (.int .i64 (k : Int))) none).run P w = .ok (.slice a k cap) w := by
 obtain ⟨i, hi, _, hz1, _⟩ := info_parts hi
 have hs : (sizeOf e).run P w = .ok 3 w := by simp [sizeOf, typeInfo, hi, hz1]
 have ht' : P.underlying t = some (.slice (P.elem t)) := by simp [Program.elem, ht]
 have he : P.elem t = e := by simp [Program.elem, ht]
 rw [run_slice_h w t _ _ _ ht' .i64 _ (by omega) (by omega), he, hs]
 have ha : a.map (fun x => x.add 0) = a := by cases a <;> simp [Addr.add]
 simp [Result.andThen, sliced, ha]
theorem run_cut3_from (a : Option Addr) (len cap k : Nat) (hk : k ≤ len) (w : World) :
 (Instr.slice t (.slice a len cap) (some (.int .i64 (k : Int))) none none).run P w = .ok (.slice (fromA3 a cap k) (len - k) (cap - k)) w := by
 obtain ⟨i, hi, _, hz1, _⟩ := info_parts hi
 have hs : (sizeOf e).run P w = .ok 3 w := by simp [sizeOf, typeInfo, hi, hz1]
 have ht' : P.underlying t = some (.slice (P.elem t)) := by simp [Program.elem, ht]
 have he : P.elem t = e := by simp [Program.elem, ht]
 rw [run_slice_l w t _ _ _ ht' .i64 _ (by omega) (by omega), he, hs]
 simp [Result.andThen, sliced, fromA3]
end
theorem wp_append_files {w : World} {o : Oper} {a : Act} {K : Act → World → Prop} {Q : Exit → Act → World → Prop} (s x : Operand)
 (ho : o.op = .call { callee := .builtin .append, args := #[s, x], argTypes := #[73, 73] })
 (base : Nat) (v : Value) (es : List REnt) (hs : a.eval s = v) (hown : OwnFl w base v es)
 (A : Option Addr) (m c : Nat) (es2 : List REnt) (hx : a.eval x = .slice A m c) (hc : RFs w A m c es2)
 (hbytes : es.length + m ≤ 1000) (hbase : base ≤ w.heap.size)
 (h : ∀ v' w', OwnFl w' base v' (es ++ es2) → w.grownBy w' v.ownBlock → K (a.put o.dst v') w') :
 o.wp Tryz.prog a w K Q := by
 obtain ⟨i, hi, hz0, hz1, hz2⟩ := info_parts info_file
 have hl2 := hc.len
 have hfin : ∀ v' w', w'.ownsRow base 124 3 v' (es.length + m) (rcells es ++ rcells es2) → OwnFl w' base v' (es ++ es2) := fun v' w' h1 => by
  unfold OwnFl
  rw [rcells_append, List.length_append, hl2]
  exact h1
 cases A with
 | none =>
  obtain ⟨hm0, hc0⟩ := hc.none_ rfl
  subst hc0 hm0
  have hcs : es2 = [] := List.eq_nil_of_length_eq_zero hl2
  subst hcs
  have hrun := run_append_owned_none (P := Tryz.prog) (w := w) base 73 o.type 124 i 3 Tryz.underlying73 hi v es.length (rcells es) hown
  unfold Oper.wp
  simp [execOp, ho, resolve, invoke, builtin, hs, hx, hrun, Result.andThen]
  exact h v w (by simpa using hown) (World.grownBy.refl w _)
 | some ad =>
  obtain ⟨g, off, e, _, hcc⟩ := hc.at_ (by simp)
  injection e with e
  subst e
  obtain ⟨v', w', hr, h1, h2, _⟩ := run_append_own (P := Tryz.prog) w base 73 o.type 124 i _ 3 48 Tryz.underlying73 hi hz0 hz1 hz2 rfl (by decide) v es.length (rcells es) hown ⟨g, off, none⟩ m c (rcells es2) (by rw [rcells_len, hl2])
   (fun j u hj => by rw [Addr.add_mid]; exact hcc j u hj) (rcells_one es2) (by unfold maxLen; omega) (by omega) hbase
  unfold Oper.wp execOp
  simp only [ho, resolve, invoke, builtin, Sem.run_bind, Sem.run_pure, Result.andThen_ok, List.map_toArray, List.map_cons, List.map_nil, hs, hx, hr]
  exact h v' w' (hfin _ _ h1) h2
theorem OwnFl.none_lit (w : World) (base : Nat) (hb : base ≤ w.heap.size) : OwnFl (w.alloc (.cells #[] 124)) base (.slice (some ⟨w.heap.size, 0, none⟩) 0 0) [] := by
 have := World.ownsRow_lit (base := base) (e := 124) (size := 3) w #[] 0 hb (by simp [maxLen]) (by simp)
 simpa [OwnFl, rcells] using this
theorem rwithout_any (es : List REnt) (a : Option Addr) (n c i : Nat) (w : World) (h : RFs w a n c es) (hi : i < n) (hn : n ≤ 64) :
 Calls Tryz.prog 119 #[.slice a n c, .int .i64 (i : Int)] w fun e w' => ∃ v, e = .returned v ∧ OwnFl w' w.heap.size v (es.take i ++ es.drop (i + 1)) ∧ Below w.heap.size w w' := by
 have hcap := h.le
 obtain ⟨p, hp⟩ : ∃ p, p = i + 1 := ⟨_, rfl⟩
 have w8 : IntKind.i64.wrap ((i : Int) + 1) = (p : Int) := by rw [IntKind.wrap_i64]; omega
 have kc1 : ∀ x, (Instr.slice 73 (.slice a n c) none (some (.int .i64 (i : Int))) none).run Tryz.prog x = .ok (.slice a i c) x := run_cut3_to (P := Tryz.prog) 73 124 Tryz.underlying73 info_file a n c i (by omega)
 obtain ⟨a2, ha2⟩ : ∃ a2, a2 = fromA3 a c p := ⟨_, rfl⟩
 obtain ⟨n2, hn2⟩ : ∃ n2, n2 = n - p := ⟨_, rfl⟩
 obtain ⟨c2, hc2⟩ : ∃ c2, c2 = c - p := ⟨_, rfl⟩
 have kc2 : ∀ x, (Instr.slice 73 (.slice a n c) (some (.int .i64 (p : Int))) none none).run Tryz.prog x = .ok (.slice a2 n2 c2) x := fun x => by
  have := run_cut3_from (P := Tryz.prog) 73 124 Tryz.underlying73 info_file a n c p (by omega) x
  rw [this, ha2, hn2, hc2]
 have HA := Qh (h.take (k := i) (by omega))
 have HB0 := h.from_ (k := p) (by omega)
 rw [← ha2, ← hn2, ← hc2] at HB0
 have HB := Qh HB0
 have hl1 : (es.take i).length = i := by rw [List.length_take, h.len]; omega
 have hn3 : i + n2 ≤ 64 := by omega
 rw [← hp]
 have HP := Qh (Qa hl1 hn3)
 clear h HB0 ha2 hn2 hc2 hp hl1
 go_enter Tryz.func119, Tryz.ntmps119
 go_upto_region 1 with fail
 refine wp_region_held_drew (S := fun x => Below w.heap.size w x) (by kernel_rfl) (Below.drew Qb) (fun hHeld => ?_)
 refine qi 1 (by assumption) ?_
 iterate 3 (refine qk rfl (by kernel_rfl) (fun _ _ _ h => h) (by intro w hSw; (try dsimp only at hSw); go_simp; all_goals with_reducible rfl) (by (try simp only [Act.put, lz]); rfl) ?_)
 refine qo (qi 5 (by assumption) ?_)
 iterate 4 (refine qk rfl (by kernel_rfl) (fun _ _ _ h => h) (by intro w hSw; (try dsimp only at hSw); go_simp; all_goals with_reducible rfl) (by (try simp only [Act.put, lz]); rfl) ?_)
 refine qo ?_
 refine qr 0 rfl (by kernel_rfl) (fun K hK => ?_)
 go_simp
 have hB1 : Below w.heap.size w (w.drew.alloc (.cells #[] 124)) := (Below.drew Qb).alloc Qn _
 have hown1 : OwnFl (w.drew.alloc (.cells #[] 124)) w.heap.size (.slice (some ⟨w.heap.size, 0, none⟩) 0 0) [] := OwnFl.none_lit w.drew w.heap.size Qn
 refine hK.out _ _ ?_ (fun hHeld => ?_)
 · exact hB1
 clear hK K
 try simp only [Act.put, lz]
 refine qr 4 rfl (by kernel_rfl) (fun K hK => ?_)
 refine wp_append_files (.tmp 5) (.tmp 8) rfl w.heap.size (.slice (some ⟨w.heap.size, 0, none⟩) 0 0) [] rfl hown1 a i c (es.take i) rfl (HA.out.below hB1) (by simp; have := HP.out.2; omega) hB1.size ?_
 intro v2 w2 ho2 hg2
 rw [List.nil_append] at ho2
 have hB2 : Below w.heap.size w w2 := hB1.grown hg2 hB1.size (fun k hk => (hown1.at_base hk).1)
 refine hK.out _ _ ?_ (fun hHeld => ?_)
 · exact hB2
 clear hK K
 try simp only [Act.put, lz]
 refine qr 9 rfl (by kernel_rfl) (fun K hK => ?_)
 refine wp_append_files (.tmp 9) (.tmp 13) rfl w.heap.size v2 (es.take i) rfl ho2 a2 n2 c2 (es.drop p) rfl (HB.out.below hB2) (by have := HP.out; omega) hB2.size ?_
 intro v3 w3 ho3 hg3
 have hB3 : Below w.heap.size w w3 := hB2.grown hg3 hB2.size (fun k hk => (ho2.at_base hk).1)
 refine hK.out _ _ ?_ (fun hHeld => ?_)
 · exact hB3
 clear hK K
 try simp only [Act.put, lz]
 refine qi 10 (by assumption) ?_
 refine qk rfl (by kernel_rfl) (fun _ _ _ h => h) (by intro w hSw; (try dsimp only at hSw); go_simp; all_goals with_reducible rfl) (by (try simp only [Act.put, lz]); rfl) ?_
 refine qo ?_
 refine wpAnyH_done (by kernel_rfl) ?_ _
 clear hHeld
 go_wp2
 go_ret
 exact ⟨v3, rfl, ho3, hB3⟩
end
section
open Go.RowKit
open Go.Maps
attribute [local go_sem] Oper.semAt_some
theorem bytesLess_before : ∀ x y : List UInt8, Op.bytesLess x y = bytesBefore x y
 | [], [] => rfl
 | [], _ :: _ => rfl
 | _ :: _, [] => rfl
 | a :: x, b :: y => by
  unfold Op.bytesLess bytesBefore
  rw [bytesLess_before x y]
theorem toList_mk (l : List UInt8) : (⟨l.toArray⟩ : ByteArray).toList = l := by
 have : (⟨l.toArray⟩ : ByteArray).toList = (⟨l.toArray⟩ : ByteArray).data.toList := by simp
 rw [this]
theorem before_asymm : ∀ {x y : List UInt8}, bytesBefore x y = true → bytesBefore y x = false
 | [], [], h => by cases h
 | [], _ :: _, _ => rfl
 | _ :: _, [], h => by cases h
 | a :: x, b :: y, h => by
  simp only [bytesBefore, Bool.or_eq_true, Bool.and_eq_true, decide_eq_true_eq, beq_iff_eq] at h
  simp only [bytesBefore, Bool.or_eq_false_iff, Bool.and_eq_false_iff, decide_eq_false_iff_not, beq_eq_false_iff_ne]
  rcases h with h | ⟨rfl, h⟩
  · have h1 := UInt8.lt_iff_toNat_lt.1 h
    refine ⟨fun h2 => ?_, .inl (fun h2 => ?_)⟩
    · have := UInt8.lt_iff_toNat_lt.1 h2; omega
    subst h2; omega
  refine ⟨fun h2 => ?_, .inr (before_asymm h)⟩
  have := UInt8.lt_iff_toNat_lt.1 h2; omega
def rput : List REnt → List UInt8 → Nat
 | [], _ => 0
 | e :: es, s => if bytesBefore e.s s = true then rput es s + 1 else 0
theorem rput_le : ∀ (es : List REnt) (s : List UInt8), rput es s ≤ es.length
 | [], _ => Nat.le_refl _
 | e :: es, s => by
  unfold rput
  split
  · have := rput_le es s
    simp only [List.length_cons]
    omega
  exact Nat.zero_le _
theorem rput_skip : ∀ (es : List REnt) (s : List UInt8) (k : Nat), (∀ j e, j < k → es[j]? = some e → bytesBefore e.s s = true) → k ≤ es.length → k ≤ rput es s
 | _, _, 0, _, _ => Nat.zero_le _
 | [], _, k + 1, _, h => by simp at h
 | e :: es, s, k + 1, hj, h => by
  unfold rput
  rw [if_pos (hj 0 e (by omega) rfl)]
  have := rput_skip es s k (fun j x hjk hx => hj (j + 1) x (by omega) hx) (by simpa using h)
  omega
theorem rput_hit : ∀ (es : List REnt) (s : List UInt8) (k : Nat) (e : REnt), (∀ j e, j < k → es[j]? = some e → bytesBefore e.s s = true) → es[k]? = some e → bytesBefore e.s s = false → rput es s = k
 | [], _, k, _, _, h, _ => by simp at h
 | x :: es, s, 0, e, _, h, he => by
  have : x = e := by simpa using h
  subst this
  unfold rput
  rw [if_neg (by rw [he]; decide)]
 | x :: es, s, k + 1, e, hj, h, he => by
  unfold rput
  rw [if_pos (hj 0 x (by omega) rfl), rput_hit es s k e (fun j y hjk hy => hj (j + 1) y (by omega) hy) (by simpa using h) he]
theorem insert_rput : ∀ (es : List REnt) (f : REnt), (∀ e ∈ es, e.s ≠ f.s) → DataW.insert f.ent (es.map REnt.ent) = (es.take (rput es f.s) ++ f :: es.drop (rput es f.s)).map REnt.ent
 | [], f, _ => rfl
 | e :: es, f, hne => by
  have h1 := hne e (by simp)
  by_cases hb : bytesBefore e.s f.s = true
  · have e1 : rput (e :: es) f.s = rput es f.s + 1 := by rw [rput, if_pos hb]
    rw [e1]
    show DataW.insert f.ent (e.ent :: es.map REnt.ent) = _
    unfold DataW.insert
    rw [if_neg (by show ¬ bytesBefore f.s e.s = true; rw [before_asymm hb]; decide), insert_rput es f (fun x hx => hne x (by simp [hx]))]
    rfl
  have e1 : rput (e :: es) f.s = 0 := by rw [rput, if_neg hb]
  have hb2 : bytesBefore f.s e.s = true := (before_total h1).resolve_left hb
  rw [e1]
  show DataW.insert f.ent (e.ent :: es.map REnt.ent) = _
  unfold DataW.insert
  rw [if_pos (by show bytesBefore f.s e.s = true; exact hb2)]
  rfl
theorem filter_all (es : List REnt) (s : List UInt8) (h : ∀ e ∈ es, e.s ≠ s) : (es.map REnt.ent).filter (fun p => !p.1.sameKey (.string s)) = es.map REnt.ent := by
 rw [List.filter_eq_self]
 intro p hp
 obtain ⟨e, he, rfl⟩ := List.mem_map.1 hp
 have : (Lit.string e.s).sameKey (.string s) = false := sameKey_ne (fun h' => h e he (by injection h'))
 show (!(Lit.string e.s).sameKey (.string s)) = true
 rw [this]
 rfl
theorem rD_put (es : List REnt) (f : REnt) (h : ∀ e ∈ es, e.s ≠ f.s) : rD (es.take (rput es f.s) ++ f :: es.drop (rput es f.s)) = (rD es).put (.string f.s) (.held f.fl) := by
 show _ = DataW.map (DataW.insert f.ent ((es.map REnt.ent).filter fun p => !p.1.sameKey (.string f.s)))
 rw [filter_all es f.s h, insert_rput es f h]
 rfl
theorem RdC.once {w : World} {rp : Nat} {t : St} {O : Nat → Prop} {a : Option Addr} {c : Nat} {es : List REnt} (h : RdC w rp t O a c es) : es.Pairwise fun x y => bytesBefore x.s y.s = true := by
 have hc := h.good.canon
 rw [h.D_] at hc
 obtain ⟨l, hl, h1, _⟩ := hc
 injection hl with hl
 subst hl
 exact (List.pairwise_map.1 h1).imp (fun hxy => hxy)
theorem before_ne {x y : List UInt8} (h : bytesBefore x y = true) : x ≠ y := by
 rintro rfl
 have := before_asymm h
 rw [h] at this
 cases this
theorem rD_del : ∀ (es : List REnt) (s : List UInt8), es.Pairwise (fun x y => bytesBefore x.s y.s = true) → ridx es s < es.length → rD (es.take (ridx es s) ++ es.drop (ridx es s + 1)) = (rD es).del (.string s)
 | [], s, _, h => by simp [ridx] at h
 | e :: es, s, hp, h => by
  obtain ⟨h1, h2⟩ := List.pairwise_cons.1 hp
  by_cases he : e.s = s
  · have e1 : ridx (e :: es) s = 0 := by rw [ridx, if_pos he]
    rw [e1]
    have hk : (Lit.string e.s).sameKey (.string s) = true := by rw [he]; exact WideAt.sameKey_self (isKey_str s)
    show rD es = .map ((e.ent :: es.map REnt.ent).filter fun p => !p.1.sameKey (.string s))
    rw [List.filter_cons_of_neg (by show ¬ (!(Lit.string e.s).sameKey (.string s)) = true; rw [hk]; decide), filter_all es s (fun x hx hxs => before_ne (h1 x hx) (by rw [hxs, he]))]
    rfl
  have e1 : ridx (e :: es) s = ridx es s + 1 := by rw [ridx, if_neg he]
  rw [e1] at h ⊢
  have hk : (Lit.string e.s).sameKey (.string s) = false := sameKey_ne (fun h' => he (by injection h'))
  have ih := rD_del es s h2 (by simpa using h)
  show rD (e :: (es.take (ridx es s) ++ es.drop (ridx es s + 1))) = .map ((e.ent :: es.map REnt.ent).filter fun p => !p.1.sameKey (.string s))
  rw [List.filter_cons_of_pos (by show (!(Lit.string e.s).sameKey (.string s)) = true; rw [hk]; rfl)]
  injection ih with ih
  show DataW.map (e.ent :: _) = _
  rw [← ih]
theorem put_eq (D : FS) (k : Lit) (d : DataW Fl) : D.put k d = (D.del k).put k d := by
 cases D <;> try rfl
 rename_i es
 show DataW.map (DataW.insert (k, d) (es.filter fun p => !p.1.sameKey k)) = DataW.map (DataW.insert (k, d) ((es.filter fun p => !p.1.sameKey k).filter fun p => !p.1.sameKey k))
 rw [List.filter_filter]
 simp
theorem rput_at : ∀ (es : List REnt) (s : List UInt8), es.Pairwise (fun x y => bytesBefore x.s y.s = true) → ridx es s < es.length → rput (es.take (ridx es s) ++ es.drop (ridx es s + 1)) s = ridx es s
 | [], s, _, h => by simp [ridx] at h
 | e :: es, s, hp, h => by
  obtain ⟨h1, h2⟩ := List.pairwise_cons.1 hp
  by_cases he : e.s = s
  · have e1 : ridx (e :: es) s = 0 := by rw [ridx, if_pos he]
    rw [e1]
    show rput es s = 0
    cases es with
    | nil => rfl
    | cons x es =>
     have hx := h1 x (by simp)
     rw [he] at hx
     rw [rput, if_neg (by rw [before_asymm hx]; decide)]
  have e1 : ridx (e :: es) s = ridx es s + 1 := by rw [ridx, if_neg he]
  rw [e1] at h ⊢
  have hlt : ridx es s < es.length := by simpa using h
  have ih := rput_at es s h2 hlt
  show rput (e :: (es.take (ridx es s) ++ es.drop (ridx es s + 1))) s = _
  have hx : bytesBefore e.s s = true := by
   have := h1 es[ridx es s] (List.getElem_mem _)
   have hs : es[ridx es s].s = s := by
    clear ih e1 he h h1 h2 hp this
    induction es with
    | nil => simp at hlt
    | cons y es ih =>
     by_cases hy : y.s = s
     · have : ridx (y :: es) s = 0 := by rw [ridx, if_pos hy]
       simp only [this, List.getElem_cons_zero]
       exact hy
     have e2 : ridx (y :: es) s = ridx es s + 1 := by rw [ridx, if_neg hy]
     simp only [e2, List.getElem_cons_succ]
     exact ih (by rw [e2] at hlt; simpa using hlt)
   rw [hs] at this
   exact this
  rw [rput, if_pos hx, ih]
theorem rD_set {es : List REnt} (s : List UInt8) (hp : es.Pairwise fun x y => bytesBefore x.s y.s = true) (h : ridx es s < es.length) (f : REnt) (hf : f.s = s) : rD (es.set (ridx es s) f) = (rD es).put (.string s) (.held f.fl) := by
 have hd := rD_del es s hp h
 have hne : ∀ e ∈ es.take (ridx es s) ++ es.drop (ridx es s + 1), e.s ≠ f.s := by
  intro e he hs
  have h1 : fat ((rD es).del (.string s)) s = none := fat_del_same s
  rw [← hd, ridx_fat] at h1
  have h2 := ridx_le (es.take (ridx es s) ++ es.drop (ridx es s + 1)) s
  obtain ⟨j, hj⟩ := List.getElem?_of_mem he
  have h3 : ridx (es.take (ridx es s) ++ es.drop (ridx es s + 1)) s < (es.take (ridx es s) ++ es.drop (ridx es s + 1)).length := by
   refine Nat.lt_of_not_le fun hle => ?_
   have hjl := (List.getElem?_eq_some_iff.1 hj).1
   have hmem : ∀ (l : List REnt) (j : Nat) (e : REnt), l[j]? = some e → e.s = s → ridx l s ≤ j := by
    intro l
    induction l with
    | nil => intro j e hj; simp at hj
    | cons y l ih =>
     intro j e hj hs
     unfold ridx
     split
     · exact Nat.zero_le _
     rename_i hy
     cases j with
     | zero =>
      have : y = e := by simpa using hj
      subst this
      exact absurd hs hy
     | succ j =>
      have := ih j e (by simpa using hj) hs
      omega
   have := hmem _ j e hj (hs.trans hf)
   omega
  rw [List.getElem?_eq_getElem h3] at h1
  cases h1
 have e1 := rD_put _ f hne
 rw [hf, rput_at es s hp h, hd, ← put_eq] at e1
 rw [← e1]
 congr 1
 have hl : (es.take (ridx es s)).length = ridx es s := by rw [List.length_take]; omega
 rw [List.take_append_of_le_length (by omega), List.take_of_length_le (by omega), List.drop_append_of_le_length (by omega), List.drop_of_length_le (by omega), List.nil_append, List.set_eq_take_append_cons_drop, if_pos h]
end
section
open Go.RowKit
open Go.Maps
attribute [local go_sem] Oper.semAt_some
section
variable {w : World} {rp : Nat} {t : St} {O : Nat → Prop} {a : Option Addr} {c : Nat} {es : List REnt}
def RMv (w : World) (rp : Nat) (O : Nat → Prop) (t : St) (w' : World) : Prop := ∃ O', Rd w' rp t O' ∧ But O w w' ∧ ∀ k, O' k → O k ∨ w.heap.size ≤ k
theorem RdC.relayC (h : RdC w rp t O a c es) {w1 : World} (hb : Below w.heap.size w w1) {a' : Option Addr} {c' : Nat} {es' : List REnt} {D' : FS} (hown : OwnFl w1 w.heap.size (.slice a' es'.length c') es') (hD : D' = rD es') (hG : Good D' t.room)
 (hby : ∀ e ∈ es', e ∈ es ∨ (Sl w w.heap.size e.a e.bs.length e.c e.bs ∧ (0 < e.bs.length → ∀ b o, e.a = some ⟨b, o, none⟩ → O b ∧ b ≠ rp))) :
 RdC (w1.setCell ⟨rp, 1, none⟩ (.slice a' es'.length c')) rp ⟨D', t.room, t.fuse, t.fails⟩ (fun k => O k ∨ (w.heap.size ≤ k ∧ k < w1.heap.size)) a' c' es' ∧ But O w (w1.setCell ⟨rp, 1, none⟩ (.slice a' es'.length c')) := by
 have h1 := h.below hb
 have hrl := h.lt rp h.rpO
 have hs := heap_setCell_same w1 rp 1 _ _ (.slice a' es'.length c') h1.cells
 have hoth : ∀ k, k ≠ rp → (w1.setCell ⟨rp, 1, none⟩ (.slice a' es'.length c')).heap[k]? = w1.heap[k]? := fun k hk => Below.heap_setCell w1 ⟨rp, 1, none⟩ _ k hk
 have hz : (w1.setCell ⟨rp, 1, none⟩ (.slice a' es'.length c')).heap.size = w1.heap.size := by simp [World.setCell]
 have hob : ∀ g, (Value.slice a' es'.length c').ownBlock = some g → w.heap.size ≤ g ∧ g < w1.heap.size := fun g hg => hown.at_base hg
 refine ⟨⟨hs, ⟨hown.1, ?_⟩, hD, hG, fun e he => ?_, .inl h.rpO, fun g hg => ⟨.inr (hob g hg), by have := (hob g hg).1; omega⟩, fun k hk => ?_, h.fuse_, h.fails_⟩, ?_⟩
 · rcases hown.2 with h2 | ⟨g, cap, cur, e, h2, h3, h4⟩
   · exact .inl h2
   exact .inr ⟨g, cap, cur, e, Nat.zero_le _, (hoth g (by omega)).trans h3, h4⟩
 · rcases hby e he with he' | ⟨hsl, hn⟩
   · have h2 := h.bytes e he'
     refine ⟨(h1.bytes e he').1.same_ (by omega) (fun hp b o e' => hoth b (h2.2 hp b o e').2.1), fun hp b o e' => ⟨.inl (h2.2 hp b o e').1, (h2.2 hp b o e').2.1, fun hv => ?_⟩⟩
     have := (hob b hv).1
     have := h.lt b (h2.2 hp b o e').1
     omega
   refine ⟨((hsl.below hb Qn).more hb.size).same_ (by omega) (fun hp b o e' => hoth b (hn hp b o e').2), fun hp b o e' => ⟨.inl (hn hp b o e').1, (hn hp b o e').2, fun hv => ?_⟩⟩
   have := (hob b hv).1
   have := h.lt b (hn hp b o e').1
   omega
 · rcases hk with hk | hk
   · have := h1.lt k hk; omega
   omega
 exact (But.of_below (O := O) hb).setCell (p := ⟨rp, 1, none⟩) (.inl h.rpO) _
theorem RdC.relay (h : RdC w rp t O a c es) {w1 : World} (hb : Below w.heap.size w w1) {v : Value} {es' : List REnt} {D' : FS} (hown : OwnFl w1 w.heap.size v es') (hD : D' = rD es') (hG : Good D' t.room)
 (hby : ∀ e ∈ es', e ∈ es ∨ (Sl w w.heap.size e.a e.bs.length e.c e.bs ∧ (0 < e.bs.length → ∀ b o, e.a = some ⟨b, o, none⟩ → O b ∧ b ≠ rp))) :
 RMv w rp O ⟨D', t.room, t.fuse, t.fails⟩ (w1.setCell ⟨rp, 1, none⟩ v) := by
 obtain ⟨a', c', rfl⟩ := hown.form
 obtain ⟨h1, h2⟩ := h.relayC hb hown hD hG hby
 exact ⟨_, ⟨a', c', es', h1⟩, h2, fun k hk => by
  rcases hk with hk | hk
  · exact .inl hk
  exact .inr hk.1⟩
theorem RdC.rfs (h : RdC w rp t O a c es) : RFs w a es.length c es := OwnFl.rfs h.own
theorem rowner {w : World} {rp : Nat} {t : St} {O : Nat → Prop} (h : Rd w rp t O) : RMv w rp O t w := ⟨O, h, But.refl _ _, fun _ hk => .inl hk⟩
theorem RMv.then {w w1 w' : World} {rp : Nat} {O : Nat → Prop} {t : St} (hb : But O w w1) (h : RMv w1 rp O t w') : RMv w rp O t w' := by
 obtain ⟨O', h1, h2, h3⟩ := h
 exact ⟨O', h1, hb.trans h2 (fun _ hi => .inl hi), fun k hk => (h3 k hk).imp id (Nat.le_trans hb.size)⟩
theorem rdelete_any (h : RdC w rp t O a c es) (s : ByteArray) : Calls Tryz.prog 65 #[.pointer (some ⟨rp, 0, none⟩), .string s] w fun e w' => e = .returned (.int .i64 (t.delete s.data.toList).1) ∧ RMv w rp O (t.delete s.data.toList).2 w' := by
 by_cases hf : t.fuse = 0
 · have e : t.delete s.data.toList = (42, t) := by unfold St.delete; rw [if_pos hf]
   rw [e]
   have CD := Qh (rcall_dead h hf)
   have HR := Qh (rowner ⟨a, c, es, h⟩)
   clear h
   go_enter Tryz.func65, Tryz.ntmps65
   go_wp2_with fail
   refine CD.out.mono ?_
   rintro e1 w1 ⟨rfl, rfl⟩
   go_wp2
   go_ret
   exact ⟨rfl, HR.out⟩
 have CD := Qh (rcall_do h hf)
 have hcap := h.len_
 by_cases hi : ridx es s.data.toList < es.length
 · obtain ⟨f0, hfat⟩ : ∃ f, fat t.D s.data.toList = some f := by
    obtain ⟨e0, g, _, hf0, _⟩ := h.here hi
    exact ⟨_, hf0⟩
   have e : t.delete s.data.toList = (0, { t.burnt with D := t.D.del (.string s.data.toList) }) := by unfold St.delete; rw [if_neg hf, hfat]
   rw [e]
   have hd := rD_del es s.data.toList h.once hi
   have HH := Qh h
   clear h e
   go_enter Tryz.func65, Tryz.ntmps65
   go_wp2_with fail
   refine CD.out.mono ?_
   rintro e1 w1 ⟨rfl, h1, b1⟩
   have AT := rat_any h1 s
   unfold ratI at AT
   rw [if_pos hi] at AT
   have AT := Qh AT
   have c1 := h1.cell.2.1
   have WT := Qh (fun (x : World) (hx : Below w1.heap.size w1 x) => rwithout_any es a es.length c (ridx es s.data.toList) x (h1.rfs.below hx) hi hcap)
   have HL := Qh (fun (w2 : World) (v : Value) (hx : Below w1.heap.size w1 w2) (ho : OwnFl w2 w1.heap.size v (es.take (ridx es s.data.toList) ++ es.drop (ridx es s.data.toList + 1))) =>
    h1.relay hx (D' := t.D.del (.string s.data.toList)) ho (by rw [HH.out.D_, hd]) (HH.out.good.del _) (fun e he => .inl (by
     rcases List.mem_append.1 he with he | he
     · exact List.mem_of_mem_take he
     exact List.mem_of_mem_drop he)))
   have hrl := h1.lt rp h1.rpO
   have z1 := h1.cell.2.2.2.2 1
   have B1 := Qh b1
   generalize ridx es s.data.toList = i at *
   obtain ⟨n, hn⟩ : ∃ n, n = es.length := ⟨_, rfl⟩
   rw [← hn] at c1 hi hcap WT
   clear h1 b1 CD hd hn
   go_wp2_with fail
   refine AT.out.mono ?_
   rintro e1 w2 ⟨rfl, rfl⟩
   go_wp2_with fail
   with_reducible refine (WT.out _ Qb).mono ?_
   rintro e1 w3 ⟨v, rfl, ho, hb⟩
   have q1 := (hb.cell (p := ⟨rp, 1, none⟩) hrl).trans c1
   have y1 := (World.frozen?_of_block (w := w1) (a := ⟨rp, 1, none⟩) (hb.block rp hrl)).trans z1
   have HF := HL.out w3 v hb ho
   obtain ⟨a9, c9, hv9⟩ := ho.form
   subst hv9
   generalize (es.take i ++ es.drop (i + 1)).length = n9 at HF ⊢
   have HF := Qh HF
   clear ho hb WT HL
   go_wp2
   go_ret
   exact ⟨rfl, RMv.then B1.out HF.out⟩
 have e : t.delete s.data.toList = (3, t.burnt) := by unfold St.delete; rw [if_neg hf, h.gone_ hi]
 rw [e]
 clear h e
 go_enter Tryz.func65, Tryz.ntmps65
 go_wp2_with fail
 refine CD.out.mono ?_
 rintro e1 w1 ⟨rfl, h1, b1⟩
 have AT := rat_any h1 s
 unfold ratI at AT
 rw [if_neg hi] at AT
 have AT := Qh AT
 have HR := Qh (RMv.then b1 (rowner ⟨a, c, es, h1⟩))
 clear h1 b1 CD
 go_wp2_with fail
 refine AT.out.mono ?_
 rintro e1 w2 ⟨rfl, rfl⟩
 go_wp2
 go_ret
 exact ⟨rfl, HR.out⟩
end
end
end
end Go.Proofs.YtamblmoedommfaaGreatDoor
