/- Contracts of the program's disk: Fuse, Fail, Synced, Used, Read. -/
import Derived.Test.YtohiheohndmccaaDkG
import Derived.Test.YtohiheohndmccaaInfU
import Derived.Sort.OwnSorted
import Derived.Lib.SliceRun
namespace Go.Proofs.Ytohiheohndmccaa
open Go.RowKit
open Go.Maps
attribute [local go_sem] Oper.semAt_some

theorem max2_any (x y : Int) (w : World) :
    (Builtin.max_ #[3, 3] 3 #[.int .i64 x, .int .i64 y]).run Try.prog w = .ok (.int .i64 (max x y)) w := by
  have e1 : (if x < y then y else x) = max x y := by omega
  simp only [Builtin.max_, List.foldlM, Builtin.max2, Sem.run_bind, Sem.run_pure, Result.andThen_ok]
  rw [e1]
theorem min2i_any (x y : Int) (w : World) :
    (Builtin.min_ #[3, 3] 3 #[.int .i64 x, .int .i64 y]).run Try.prog w = .ok (.int .i64 (min x y)) w := by
  have e1 : (if y < x then y else x) = min x y := by omega
  simp only [Builtin.min_, List.foldlM, Builtin.min2, Sem.run_bind, Sem.run_pure, Result.andThen_ok]
  rw [e1]
def St.fuse_ (t : St) (n : Int) : St := { t with fuse := max n (-1) }
def St.fail_ (t : St) (n : Int) : St := { t with fails := max n 0 }
/-- A call without an answer. -/
def Turns (w : World) (dp : Nat) (O : Nat → Prop) (t : St) (e : Ending) (w' : World) : Prop := e = .returned (.tuple #[]) ∧ IsD w' dp t O ∧ But O w w'

set_option maxRecDepth 100000 in
theorem fuse_any {w : World} {dp : Nat} {t : St} {O : Nat → Prop} (h : IsD w dp t O) (n : Int) (hn : n ≤ 9223372036854775807) :
    Calls Try.prog 22 #[.pointer (some ⟨dp, 0, none⟩), .int .i64 n] w (Turns w dp O (t.fuse_ n)) := by
  obtain ⟨mb, C, h⟩ := h
  have c2 := h.cell.2.2.1
  have z2 := h.cell.2.2.2.2 2
  have hm := fun (x : World) => max2_any n (-1) x
  have h2 : DskC (w.setCell ⟨dp, 2, none⟩ (.int .i64 (max n (-1)))) dp mb C t.D t.room (max n (-1)) t.fails O := h.set_ 2 _ rfl (by omega) h.fails_
  have H := Lib.hid (And.intro h2 ((But.refl O w).setCell (p := ⟨dp, 2, none⟩) (.inl h.dpO) (.int .i64 (max n (-1)))))
  have HF : Hid (t.fuse_ n = ⟨t.D, t.room, max n (-1), t.fails⟩) := rfl
  clear h h2 hn
  generalize max n (-1) = m at *
  go_enter Try.func22, Try.ntmps22
  go_wp2
  go_end0
  exact ⟨rfl, by rw [HF.out]; exact ⟨mb, C, H.out.1⟩, H.out.2⟩
set_option maxRecDepth 100000 in
theorem fail_any {w : World} {dp : Nat} {t : St} {O : Nat → Prop} (h : IsD w dp t O) (n : Int) (hn : n ≤ 9223372036854775807) :
    Calls Try.prog 21 #[.pointer (some ⟨dp, 0, none⟩), .int .i64 n] w (Turns w dp O (t.fail_ n)) := by
  obtain ⟨mb, C, h⟩ := h
  have c2 := h.cell.2.2.2.1
  have z2 := h.cell.2.2.2.2 3
  have hm := fun (x : World) => max2_any n 0 x
  have h2 : DskC (w.setCell ⟨dp, 3, none⟩ (.int .i64 (max n 0))) dp mb C t.D t.room t.fuse (max n 0) O := h.set_ 3 _ rfl h.fuse_ (by omega)
  have H := Lib.hid (And.intro h2 ((But.refl O w).setCell (p := ⟨dp, 3, none⟩) (.inl h.dpO) (.int .i64 (max n 0))))
  have HF : Hid (t.fail_ n = ⟨t.D, t.room, t.fuse, max n 0⟩) := rfl
  clear h h2 hn
  generalize max n 0 = m at *
  go_enter Try.func21, Try.ntmps21
  go_wp2
  go_end0
  exact ⟨rfl, by rw [HF.out]; exact ⟨mb, C, H.out.1⟩, H.out.2⟩

/-- All bytes of the files that are left. -/
def sumL (left : Lit → Bool) : FS → Nat
  | .map es => (es.map fun p => if left p.1 = true then lenOf p.2 else 0).sum
  | _ => 0
theorem sumL_all {D : FS} (hD : Canon D) : sumL (has D) D = tot D := by
  obtain ⟨es, rfl, _, hk⟩ := hD
  show (es.map fun p => if has (.map es) p.1 = true then lenOf p.2 else 0).sum = (es.map fun p => lenOf p.2).sum
  congr 1
  apply List.map_congr_left
  intro p hp
  rw [if_pos (show has (.map es) p.1 = true from List.any_eq_true.2 ⟨p, hp, WideAt.sameKey_self (hk p hp)⟩)]
theorem sumL_none {D : FS} {left : Lit → Bool} (h : ∀ k, left k = false) : sumL left D = 0 := by
  cases D <;> try rfl
  rename_i es
  show (es.map fun p => if left p.1 = true then lenOf p.2 else 0).sum = 0
  induction es with
  | nil => rfl
  | cons x r ih => rw [List.map_cons, List.sum_cons, ih, h x.1]; rfl
theorem sumL_step {D : FS} (hD : Canon D) {left : Lit → Bool} {kl : Lit} {d : DataW Fl} (hl : look D kl = some d) (hlk : left kl = true) : sumL (fun z => left z && !z.sameKey kl) D + lenOf d = sumL left D := by
  obtain ⟨es, rfl, h1, hk⟩ := hD
  have hp := apart_of_rising h1
  clear h1
  show (es.map fun p => if (left p.1 && !p.1.sameKey kl) = true then lenOf p.2 else 0).sum + lenOf d = (es.map fun p => if left p.1 = true then lenOf p.2 else 0).sum
  change (es.find? fun p => p.1.sameKey kl).map (·.2) = some d at hl
  induction es with
  | nil => cases hl
  | cons x r ih =>
    obtain ⟨a1, a2⟩ := List.pairwise_cons.1 hp
    cases hx : x.1.sameKey kl
    · rw [List.find?_cons_of_neg (by rw [hx]; decide)] at hl
      have := ih (fun p hp => hk p (by simp [hp])) a2 hl
      simp only [List.map_cons, List.sum_cons, hx, Bool.not_false, Bool.and_true]
      omega
    · rw [List.find?_cons_of_pos (by rw [hx])] at hl
      have hd : x.2 = d := by injection hl
      have hxk : x.1 = kl := WideAt.sameKey_eq hx
      have hrest : (r.map fun p => if (left p.1 && !p.1.sameKey kl) = true then lenOf p.2 else 0) = r.map fun p => if left p.1 = true then lenOf p.2 else 0 := by
        apply List.map_congr_left
        intro p hp'
        have : p.1.sameKey kl = false := by
          cases hs : p.1.sameKey kl
          · rfl
          · exact absurd (hxk.trans (WideAt.sameKey_eq hs).symm) (a1 p hp')
        rw [this]; simp
      simp only [List.map_cons, List.sum_cons, hx, Bool.not_true, Bool.and_false, hrest, hd]
      rw [hxk, hlk]
      simp
      omega
section
variable {w : World} {dp mb room : Nat} {C : DataW Fe} {D : FS} {fuse fails : Int} {O : Nat → Prop}
theorem Files.at_key (h : Files w mb dp C D O) {kl : Lit} {f : Fe} (hat : ∀ zd, C.atKey kl zd = .held f) : look C kl = some (.held f) ∧ ∃ g, look D kl = some (.held g) ∧ f.l = (g.l : Int) ∧ f.n = g.bs.length := by
  have h1 : look C kl = some (.held f) := by
    have hh := has_true_of_atKey hat
    rw [has_look] at hh
    obtain ⟨d, hd⟩ := Option.isSome_iff_exists.1 hh
    have := hat .nil
    rw [atKey_look, hd] at this
    rw [hd, ← this]
    rfl
  refine ⟨h1, ?_⟩
  have h2 := h.at_ kl
  rw [h1] at h2
  match hd : look D kl with
  | some (.held g) => rw [hd] at h2; exact ⟨g, rfl, h2.1, own_len h2.2⟩
  | none | some (.lit _) | some .nil | some (.ptr _) | some (.slice _ _) | some (.agg _) | some (.iface _ _) | some (.map _) => rw [hd] at h2; exact h2.elim

set_option maxRecDepth 100000 in
set_option maxHeartbeats 1600000 in
theorem used_any (h : DskC w dp mb C D room fuse fails O) : Calls Try.prog 15 #[.pointer (some ⟨dp, 0, none⟩)] w fun e w' => e = .returned (.int .i64 ((tot D : Nat) : Int)) ∧ Below w.heap.size w w' := by
  have c0 := h.cell.1
  have htot : tot D ≤ 1048576 := by have h1 := h.good.tot_; have h2 := h.good.room_; omega
  have HA := Lib.hid (fun (kl : Lit) (f : Fe) hat => h.files.at_key (kl := kl) (f := f) hat)
  have HS := Lib.hid (h.good.canon)
  have hmb := h.lt mb h.files.inO
  have hhas : has C = has D := funext h.files.has_
  have hown := h.files.owns
  have S0 := sumL_all h.good.canon
  rw [← hhas] at S0
  have HS0 := Lib.hid S0
  clear h hhas S0
  go_enter Try.func15, Try.ntmps15
  go_wp2_with (first
    | (at_range; refine wpList_range_own _ rfl _ 49 rfl 9 56 law9 Try.underlying49 rdF mb (size C) C rfl hown ?_; intro w0 hrg0 hg0 hs0)
    | fail)
  go_frame
  go_loopw [3] (fun u wr => ∃ (left : Lit → Bool) (cnt a : Nat), wr.ranges Try.prog 9 rdF mb w.heap.size (size C) C left cnt ∧ a + sumL left D = tot D ∧ u = .int .i64 ((a : Nat) : Int) ∧ Below w.heap.size w wr ∧ w.heap.size < wr.heap.size)
    (fun _ wr => wr.rangeLeft mb w.heap.size)
  case atStart => exact ⟨_, _, 0, hrg0, by rw [HS0.out]; omega, rfl, (Below.refl _ _).grown hg0 (Nat.le_refl _) (fun j hj => by cases hj), by omega⟩
  case round =>
    obtain ⟨left, cnt, a, hrg, hsum, rfl, hnx, hzz⟩ := hrel
    go_wp2_with (first
      | (at_next; refine wpList_next_ranges _ rfl _ rfl 9 law9 rdF Value.string (fun f : Fe => .agg #[.slice f.a f.n f.c, .int .i64 f.l]) (fun key kl hk => by obtain ⟨x, hx, _⟩ := Maps.keyOf_str Try.underlying9 hk; exact ⟨_, hx⟩) (fun v y hv => by obtain ⟨f, rfl, _⟩ := rdF_inv hv; exact ⟨f, rfl⟩) mb w.heap.size (size C) C left cnt rfl hrg ?_ ?_)
      | fail)
    · intro hc0 hl0
      have e0 := sumL_none (D := D) hl0
      have ha : a = tot D := by omega
      subst ha
      have HX := Lib.hid hnx
      clear hnx hrg hsum e0 hc0 hl0
      go_wp2
      go_ret
      exact ⟨rfl, HX.out⟩
    · intro x f kl yd yp w1 cnt1 hkey hlk hv hat hrg1 hlt hg1 hs1 hen
      have hy : (DataW.held f, []) = (yd, yp) := Option.some.inj ((rdF_val f).symm.trans hv)
      obtain ⟨rfl, rfl⟩ := Prod.mk.inj hy
      clear hy
      obtain ⟨_, g, hgD, _, hn⟩ := HA.out kl f hat
      have hst := sumL_step HS.out hgD hlk
      simp only [lenOf, ← hn] at hst
      have hb1 : Below w.heap.size w w1 := hnx.grown hg1 (by omega) (fun j hj => by injection hj with hj; omega)
      have HR := Lib.hid (And.intro hrg1 (And.intro hb1 (And.intro hlt (And.intro hs1 hrg))))
      have hfn : a + f.n ≤ 1048576 := by omega
      have hz1 : w.heap.size < w1.heap.size := by omega
      have hw : IntKind.i64.wrap ((a : Int) + (f.n : Int)) = ((a + f.n : Nat) : Int) := by rw [IntKind.wrap_i64]; omega
      have HT := Lib.hid (show (a + f.n) + sumL (fun z => left z && !z.sameKey kl) D = tot D by omega)
      clear hrg1 hb1 hlt hs1 hg1 hst hgD hn hv hat hkey hlk hnx hrg hsum
      go_wp2
      go_roundw
      case rel => exact ⟨_, cnt1, a + f.n, HR.out.1.alloc _, HT.out, rfl, HR.out.2.1.alloc (by omega) _, by simp; omega⟩
      case measure => rw [(HR.out.1.alloc _).left_eq, HR.out.2.2.2.2.left_eq]; exact HR.out.2.2.1

set_option maxRecDepth 100000 in
theorem synced_any (h : DskC w dp mb C D room fuse fails O) (s : ByteArray) (hs : s.size ≤ maxLen) : Calls Try.prog 17 #[.pointer (some ⟨dp, 0, none⟩), .string s] w
    fun e w' => e = .returned (.int .i64 (((fat D s.data.toList).getD Fl.zero).l : Int)) ∧ w = w' := by
  have c0 := h.cell.1
  have L := (h.files.run_look hs w rfl).1
  have hl : Hid ((cat C (.string s.data.toList)).l = (((fat D s.data.toList).getD Fl.zero).l : Int)) := by
    show _ = _
    cases hf : fat D s.data.toList with
    | none => rw [(h.files.cat_none h.good _ hf).2]; rfl
    | some f => exact (h.files.cat_ _ f hf).2.1
  unfold Fe.val at L
  generalize cat C (.string s.data.toList) = f at *
  have F1 : ∀ (u : Value) (x : World), (Instr.field 56 (.agg #[u, .int .i64 f.l]) 1).run Try.prog x = .ok (.int .i64 f.l) x := fun u x => by kernel_rfl
  clear h hs
  go_enter Try.func17, Try.ntmps17
  go_wp2
  go_ret
  exact ⟨ret_i64 hl.out, rfl⟩
end
/-- Bytes that a call has made anew. -/
def NewBytes (w : World) (bs : List Nat) (is : Bool) (e : Ending) (w' : World) : Prop :=
  ∃ a c, e = .returned (.tuple #[.slice a bs.length c, .bool is]) ∧ OwnB w' w.heap.size 5 (.slice a bs.length c) bs ∧ Below w.heap.size w w'
theorem eql_nil (w : World) (a : Option Addr) (n c n' c' : Nat) : (binOp .eql 31 (.slice a n c) (.slice none n' c')).run Try.prog w = .ok (.bool a.isNone) w := Lib.run_eql_slice_nil w _ _ a n c n' c' Try.underlying31
set_option maxRecDepth 100000 in
theorem cloneB_any (a : Option Addr) (n c : Nat) (bs : List Nat) (w : World) (hs : Sl w w.heap.size a n c bs) (hn : n ≤ 140737488355328) :
    Calls Try.prog 33 #[.slice a n c] w fun e w' => ∃ a' c', e = .returned (.slice a' bs.length c') ∧ OwnB w' w.heap.size 5 (.slice a' bs.length c') bs ∧ Below w.heap.size w w' := by
  cases a with
  | none =>
    have hc0 := hs.none_ rfl
    have hn0 : n = 0 := by have := hs.le; omega
    subst hc0 hn0
    have hbs : bs = [] := List.eq_nil_of_length_eq_zero hs.length
    subst hbs
    clear hs hn
    have q := eql_nil w none 0 0 0 0
    go_enter Try.func33, Try.ntmps33
    go_wp2
    go_ret
    exact ⟨none, 0, rfl, OwnB.nil_ _ _ _, Below.refl _ _⟩
  | some ad =>
    have ho : OwnB (w.alloc (.cells #[] 5)) w.heap.size 5 (.slice (some ⟨w.heap.size, 0, none⟩) 0 0) [] := OwnB.lit (w := w) (base := w.heap.size) 5 [] (Nat.le_refl _) (by decide)
    have h2 := hs.below ((Below.refl w.heap.size w).alloc (Nat.le_refl _) (.cells #[] 5)) (Nat.le_refl _)
    have HO := Lib.hid (And.intro ho h2)
    clear hs ho h2
    have q := eql_nil w (some ad) n c 0 0
    go_enter Try.func33, Try.ntmps33
    go_wp2_with (at_builtin; refine wpList_append_sl rfl (.tmp 5) (.tmp 6) _ rfl w.heap.size _ Try.underlying31 info_u8 _ [] rfl HO.out.1 _ (some ad) n c bs rfl HO.out.2 (by simp; omega) (by simp) ?_; intro v1 w1 ho1 hg1 hat1)
    rw [List.nil_append] at ho1
    have HB := Lib.hid (((Below.refl w.heap.size w).alloc (Nat.le_refl _) (.cells #[] 5)).grown hg1 (by simp) (fun k hk => by cases hk; exact Nat.le_refl _))
    rcases ho1.2 with ⟨hv, h0⟩ | ⟨g, cap, cur, hv, _⟩
    · have hbs : bs = [] := List.eq_nil_of_length_eq_zero h0
      subst hbs hv
      have H1 := Lib.hid ho1
      clear hg1 hat1 ho1
      go_ret
      exact ⟨none, 0, rfl, H1.out, HB.out⟩
    · subst hv
      have H1 := Lib.hid ho1
      clear hg1 hat1 ho1
      go_ret
      exact ⟨_, _, rfl, H1.out, HB.out⟩
set_option maxRecDepth 100000 in
theorem read_any {w : World} {dp : Nat} {t : St} {O : Nat → Prop} (h : IsD w dp t O) (s : ByteArray) (hs : s.size ≤ maxLen) : Calls Try.prog 10 #[.pointer (some ⟨dp, 0, none⟩), .string s] w
    (NewBytes w ((fat t.D s.data.toList).getD Fl.zero).bs (fat t.D s.data.toList).isSome) := by
  obtain ⟨mb, C, h⟩ := h
  have c0 := h.cell.1
  have L := (h.files.run_look hs w rfl).2
  rw [h.files.has_, h.good.has_] at L
  have hr : ((fat t.D s.data.toList).getD Fl.zero).bs.length ≤ 1048576 := by
    cases hf : fat t.D s.data.toList with
    | none => simp [Fl.zero]
    | some f => exact h.room_ hf
  have hsl : Sl w w.heap.size (cat C (.string s.data.toList)).a (cat C (.string s.data.toList)).n (cat C (.string s.data.toList)).c ((fat t.D s.data.toList).getD Fl.zero).bs := by
    cases hf : fat t.D s.data.toList with
    | none => rw [(h.files.cat_none h.good _ hf).2]; exact Sl.nil_
    | some f =>
      obtain ⟨_, _, ho⟩ := h.files.cat_ _ f hf
      obtain ⟨a, c, e, hsl⟩ := ho.sl (h.good.at_ hf).2.2.1
      unfold Fe.sl at e
      injection e with e1 e2 e3
      rw [e1, e2, e3]
      exact hsl
  unfold Fe.val at L
  generalize cat C (.string s.data.toList) = f at *
  generalize ((fat t.D s.data.toList).getD Fl.zero).bs = bs at *
  generalize (fat t.D s.data.toList).isSome = is at *
  have hb : Below w.heap.size w (w.alloc (.cells #[.slice f.a f.n f.c, .int .i64 f.l] 56)) := (Below.refl _ _).alloc (Nat.le_refl _) _
  have hn := hsl.length
  have CL := Lib.hid (cloneB_any f.a f.n f.c bs _ ((hsl.below hb (Nat.le_refl _)).more (by simp)) (by omega))
  have HB := Lib.hid hb
  clear h hs hsl hb hn
  go_enter Try.func10, Try.ntmps10
  go_wp2_with fail
  refine CL.out.mono ?_
  rintro e w' ⟨a', c', rfl, ho, hb2⟩
  have H2 := Lib.hid (And.intro (ho.mono (base' := w.heap.size) (by simp)) (HB.out.trans (hb2.mono (by simp))))
  clear ho hb2 CL
  go_wp2
  go_ret2
  exact ⟨a', c', rfl, H2.out⟩
end Go.Proofs.Ytohiheohndmccaa
