/- Contracts of the program's disk: Rename, List. -/
import Derived.Test.YtohiheohndmccaaDkK
namespace Go.Proofs.Ytohiheohndmccaa
open Go.RowKit Go.Sort
open Go.Maps
attribute [local go_sem] Oper.semAt_some

set_option maxRecDepth 100000 in
theorem rename_any {w : World} {dp : Nat} {t : St} {O : Nat → Prop} (h : IsD w dp t O) (s : ByteArray) (hs : s.size ≤ 281474976710656) (to : ByteArray) (ht : to.size ≤ 281474976710656) :
    Calls Try.prog 23 #[.pointer (some ⟨dp, 0, none⟩), .string s, .string to] w (Tells1 (Left w dp O (t.rename s.data.toList to.data.toList))) := by
  obtain ⟨mb, C, h⟩ := h
  have hb3 := below3 w (.cells #[.pointer (some ⟨dp, 0, none⟩)] 24) (.cells #[.string s] 9) (.cells #[.string to] 9)
  obtain ⟨x1, x2, x3⟩ := box3 w (.pointer (some ⟨dp, 0, none⟩)) (.string s) (.string to) 24 9 9
  have hO := h.lt
  have CC : Calls Try.prog 36 #[.pointer (some ⟨dp, 0, none⟩), .func (.func 43) #[] #[.pointer (some ⟨w.heap.size + 1 + 1, 0, none⟩), .pointer (some ⟨w.heap.size, 0, none⟩), .pointer (some ⟨w.heap.size + 1, 0, none⟩)]]
      (((w.alloc (.cells #[.pointer (some ⟨dp, 0, none⟩)] 24)).alloc (.cells #[.string s] 9)).alloc (.cells #[.string to] 9)) (Tells1 (Left w dp O (t.rename s.data.toList to.data.toList))) := by
    have h3 := h.below hb3
    by_cases hf : t.fuse = 0
    · have e : t.rename s.data.toList to.data.toList = (42, t) := by unfold St.rename; rw [if_pos hf]
      rw [e]
      refine (call_dead (hf ▸ h3) _).mono ?_
      rintro _ w' ⟨rfl, rfl⟩
      exact ⟨42, rfl, Left.same h3 (But.of_below (O := O) hb3)⟩
    · refine call_do h3 hf _ _ (fun x => by kernel_rfl) _ (fun w1 d1 bt => ?_)
      have e : t.rename s.data.toList to.data.toList = rnOf1 t.D t.room (burn t.fuse) t.fails s.data.toList to.data.toList := by
        unfold St.rename rnOf1
        rw [if_neg hf]
        rfl
      rw [e]
      have hno : ∀ k, w.heap.size ≤ k → ¬ O k := fun k hk ho => by have := hO k ho; omega
      refine (rename1_any d1 s hs to ht _ _ _ ?_ ?_ ?_ (hno _ (by omega)) (hno _ (Nat.le_refl _)) (hno _ (by omega))).mono ?_
      · exact (bt.cell (by simp) (hno _ (by omega))).trans x3
      · exact (bt.cell (by simp; omega) (hno _ (Nat.le_refl _))).trans x1
      · exact (bt.cell (by simp) (hno _ (by omega))).trans x2
      · rintro _ w'' ⟨x, rfl, hL⟩
        exact ⟨x, rfl, hL.of ((But.of_below (O := O) hb3).trans bt (fun _ hi => .inl hi))⟩
  have HC := Lib.hid CC
  clear CC h hb3 hO x1 x2 x3
  go_enter Try.func23, Try.ntmps23
  go_wp2_with fail
  refine HC.out.mono ?_
  rintro e w' ⟨x, rfl, hR⟩
  have HR := Lib.hid hR
  clear hR HC
  go_wp2
  go_ret
  exact ⟨x, rfl, HR.out⟩

theorem before_lt : ∀ {a b : List UInt8}, bytesBefore a b = true → a < b
  | [], [], h => by cases h
  | [], _ :: _, _ => List.Lex.nil
  | _ :: _, [], h => by cases h
  | x :: r, y :: s, h => by
    simp only [bytesBefore, Bool.or_eq_true, Bool.and_eq_true, decide_eq_true_eq, beq_iff_eq] at h
    rcases h with h | ⟨rfl, h⟩
    · exact List.Lex.rel h
    · exact List.Lex.cons (before_lt h)
theorem names_sorted {D : FS} {room : Nat} (h : Good D room) : (strKeys D).Pairwise (fun a b => leB a b = true) := by
  rw [strKeys_keysL, List.pairwise_map]
  refine (keysL_sorted h.canon).imp_of_mem (fun {a b} ha hb hab => ?_)
  obtain ⟨x, rfl⟩ := h.strs a ((keysL_mem h.canon a).1 ha)
  obtain ⟨y, rfl⟩ := h.strs b ((keysL_mem h.canon b).1 hb)
  simp only [leB, decide_eq_true_eq]
  exact List.le_of_lt (before_lt hab)
theorem names_sort {D : FS} {room : Nat} (h : Good D room) : (strKeys D).mergeSort leB = strKeys D := List.mergeSort_of_pairwise (names_sorted h)
theorem size_names (D : FS) : (strKeys D).length = size D := by rw [strKeys_keysL, List.length_map, size_keysL]
theorem info_str : (Try.prog.info? 9).map (fun i => (i.zero, i.size, i.bytes)) = some (some (.string ⟨#[]⟩), 1, 16) := by kernel_rfl
/-- Names that a call has made anew. -/
def NewNames (w : World) (l : List (List UInt8)) (e : Ending) (w' : World) : Prop :=
  ∃ g c, e = .returned (.slice (some ⟨g, 0, none⟩) l.length c) ∧ w'.ownsRow w.heap.size 9 1 (.slice (some ⟨g, 0, none⟩) l.length c) l.length (l.map Go.Proofs.encStr) ∧ Below w.heap.size w w'
section
variable {w : World} {dp mb room : Nat} {C : DataW Fe} {D : FS} {fuse fails : Int} {O : Nat → Prop}
set_option maxRecDepth 100000 in
set_option maxHeartbeats 1600000 in
theorem list_any (h : DskC w dp mb C D room fuse fails O) : Calls Try.prog 13 #[.pointer (some ⟨dp, 0, none⟩)] w (NewNames w (strKeys D)) := by
  obtain ⟨i0, hi, hz0, hz1, hz2⟩ := info_parts info_str
  have c0 := h.cell.1
  have hsz := h.good.size_
  have hlen := fun (ty : TypeId) => h.files.run_len w rfl h.good.canon ty
  have hCD : Hid (strKeys C = strKeys D) := by show _ = _; rw [strKeys_keysL, strKeys_keysL, h.files.keys_ h.good.canon]
  have hzC : Hid (size C = size D) := h.files.size_ h.good.canon
  have HN := Lib.hid (And.intro (names_sort h.good) (size_names D))
  have hmb := h.lt mb h.files.inO
  have hdp := h.lt dp h.dpO
  have hown := h.files.owns
  have LW := Lib.hid law9
  clear h
  go_enter Try.func13, Try.ntmps13
  go_wp2_with (first
    | (at_make; refine wpList_make_own _ rfl _ _ 39 rfl w.heap.size 9 i0 (.string ⟨#[]⟩) 1 Try.underlying39 hi hz0 hz1 _ _ _ (size D) rfl rfl rfl (by rw [hz2]; omega) (by unfold maxLen; omega) (Nat.le_refl _) ?_; intro w1 hrow1 hg1; have c1 := hg1.cell c0 (by simp))
    | (at_range; refine wpList_range_own _ rfl _ 49 rfl 9 56 LW.out Try.underlying49 rdF mb (size C) C rfl (hown.kept hg1 (by simp)) ?_; intro w0 hrg0 hg0 hs0)
    | fail)
  go_frame
  go_loopw [3] (fun v wr => ∃ (left : Lit → Bool) (cnt : Nat) (ss : List (List UInt8)), wr.ranges Try.prog 9 rdF mb w1.heap.size (size C) C left cnt ∧ ss.length + cnt ≤ size C ∧
      wr.ownsRow w.heap.size 9 1 v ss.length (ss.map Go.Proofs.encStr) ∧ v ≠ .slice none 0 0 ∧ Collected C left ss ∧ Below w.heap.size w wr)
    (fun _ wr => wr.rangeLeft mb w1.heap.size)
  case atStart =>
    exact ⟨_, _, [], hrg0, by simp, hrow1.kept hg0 (Or.inr (by simp [Value.ownBlock])), by simp, Collected.start C,
      ((Below.refl _ _).grown hg1 (Nat.le_refl _) (fun j hj => by cases hj)).grown hg0 hg1.size (fun j hj => by cases hj)⟩
  case round =>
    obtain ⟨left, cnt, ss, hrg, hcs, hrow, hnn, hC, hnx⟩ := hrel
    go_wp2_with (first
      | (at_next; refine wpList_next_ranges _ rfl _ rfl 9 LW.out rdF Go.Proofs.encStr (fun f : Fe => .agg #[.slice f.a f.n f.c, .int .i64 f.l]) (fun key kl hk => by obtain ⟨x, hx, _⟩ := Maps.keyOf_str Try.underlying9 hk; exact ⟨x, hx⟩) (fun v y hv => by obtain ⟨f, rfl, _⟩ := rdF_inv hv; exact ⟨f, rfl⟩) mb w1.heap.size (size C) C left cnt rfl hrg ?_ ?_)
      | fail)
    · intro hc0 hl0
      rcases hrow.2 with ⟨hnil, _⟩ | ⟨g, cap, cur, rfl, hbase, hb, h1, h2, h3, h4⟩
      · exact absurd hnil hnn
      have hH : Holds Go.Proofs.encStr wr g 0 ss.toArray := holds_of_block hb (by simpa using h4)
      have hgl : g < wr.heap.size := (Array.getElem?_eq_some_iff.1 hb).1
      have hc := Lib.hid (Try.slices_Sort_string g 0 cap ss wr hH hgl (by have := hzC.out; omega))
      have hpm := hC.perm hrg.owns LW.out Try.underlying9 hl0
      have hms : ss.mergeSort leB = strKeys D := by rw [mergeSort_of_perm hpm, hCD.out]; exact HN.out.1
      have hln : ss.length = (strKeys D).length := by rw [← hms]; simp
      have hor := fun (n : Nat) (os : Array Obj) => ownsRow_sorted (w := wr) (n := n) (os := os) (ss := ss) (ts := ss.mergeSort fun x y => decide (x ≤ y)) (by simp) hbase hb h1 h2 h3
      have hgr := fun (n : Nat) (os : Array Obj) => grownBy_sorted (w := wr) (g := g) (n := n) (os := os) (ss.mergeSort fun x y => decide (x ≤ y)).toArray
      have HE := Lib.hid (And.intro hms (And.intro hln (And.intro hor (And.intro hgr (And.intro hnx hbase)))))
      clear hms hln hor hgr hnx hH hrg hcs hrow hC hpm hl0 hc0 hb h1 h2 h3 h4 hbase
      go_wp2_with fail
      refine hc.out.mono ?_
      rintro e w' ⟨rfl, nn, os, hw'⟩
      have HW := Lib.hid hw'
      clear hw' hc
      go_wp2
      go_ret
      obtain ⟨hms, hln, hor, hgr, hnx, hbase⟩ := HE.out
      have e1 := HW.out
      subst e1
      refine ⟨g, cap, by rw [← hln]; rfl, ?_, hnx.grown (hgr nn os) hnx.size (fun j hj => by cases hj; exact hbase)⟩
      have := hor nn os
      rw [← hln, ← hms]
      exact this
    · intro x f kl yd yp w2 cnt2 hkey hlk hv hat hrg2 hlt hg2 hs2 hen
      obtain ⟨x', ex, rfl, _⟩ := Maps.keyOf_str Try.underlying9 hkey
      obtain rfl : x = x' := encStr_inj ex
      have hrow2 := hrow.kept hg2 (Or.inr (row_ne_iter hrow hrg).symm)
      have hn2 : Below w.heap.size w w2 := hnx.grown hg2 hnx.size (fun j hj => by cases hj; exact hg1.size)
      have HH := Lib.hid (And.intro hrg (And.intro hC (And.intro hn2 (And.intro hlk (And.intro hat hlt)))))
      clear hs2 hkey hv hlk hat hnx hC hg2
      go_wp2_with (first
        | (at_builtin; refine wpList_append_own _ rfl _ _ 39 rfl w.heap.size 9 i0 (.string ⟨#[]⟩) 1 16 Try.underlying39 hi hz0 hz1 hz2 rfl (by decide) _ _ _ rfl (hrow2.alloc _) ⟨w2.heap.size, 0, none⟩ 1 1 [Go.Proofs.encStr x] rfl rfl (cell_one_new _ _ _) (by simp [Value.oneCell', Go.Proofs.encStr]) (by have := hzC.out; unfold maxLen at *; omega) (by have := hzC.out; omega) (by have := hn2.size; simp; omega) ?_; intro v' w3 hown' hg3 hnil3; go_frame)
        | fail)
      obtain ⟨hrg, hC, hn2, hlk, hat, hlt⟩ := HH.out
      have hrg3 := (hrg2.alloc (.cells #[Go.Proofs.encStr x] 9)).kept hg3 (row_ne_low hrow2 hmb) (row_ne_iter hrow2 hrg2)
      go_roundw
      case rel =>
        refine ⟨_, cnt2, ss ++ [x], hrg3, by simp; omega, by simpa using hown', fun hv' => by have := (hnil3.1 hv').2; omega, hC.step hlk hat, ?_⟩
        exact (hn2.alloc hn2.size _).grown hg3 (by have := hn2.size; simp; omega) (fun j hj => (hrow2.lt j hj).1)
      case measure => rw [hrg3.left_eq, hrg.left_eq]; exact hlt
end
end Go.Proofs.Ytohiheohndmccaa
