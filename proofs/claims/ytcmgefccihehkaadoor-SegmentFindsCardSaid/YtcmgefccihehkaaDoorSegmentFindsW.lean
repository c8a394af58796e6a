/- SegmentFinds: the walk. -/
import Derived.Test.YtcmgefccihehkaaDoorSegmentIndexW
import Derived.Test.YtcmgefccihehkaaDoorSgF
import Derived.Test.YtcmgefccihehkaaDoorSgJ
namespace Go.Proofs.YtcmgefccihehkaaDoor
open Go.RowKit Go.Shelf
open Crc Frm

/-- A boxed frame. -/
structure Bx (w : World) (p : Nat) (f : Fr) (ba : Option Addr) (bc : Nat) : Prop where
  frame : w.heap[p]? = some (.cells #[.int .i64 f.ty, .int .i64 f.seq, .slice ba f.body.length bc] 36 (0, 0))
  body : Sl w w.heap.size ba f.body.length bc f.body
theorem Bx.on {w1 w2 : World} {p : Nat} {f : Fr} {ba : Option Addr} {bc : Nat} (h : Bx w1 p f ba bc) (hb : Below w1.heap.size w1 w2) : Bx w2 p f ba bc :=
  ⟨(hb.block p (lt_of_heap h.frame)).trans h.frame, (h.body.below hb (Nat.le_refl _)).more hb.size⟩
theorem Bx.new {w : World} {f : Fr} {ba : Option Addr} {bc : Nat} (h : Sl w w.heap.size ba f.body.length bc f.body) : Bx (w.alloc (.cells #[.int .i64 f.ty, .int .i64 f.seq, .slice ba f.body.length bc] 36)) w.heap.size f ba bc :=
  ⟨heap_alloc_new _ _, (h.below ((Below.refl _ w).alloc (Nat.le_refl _) _) (Nat.le_refl _)).more (by simp)⟩
theorem h_sp (v u : Value) (l : List (Int × Int)) (w : World) (b1 b2 : Nat) (h1 : OwnS w b1 v l) (h2 : OwnS w b2 u l) : Calls Tryd.prog 21 #[v, u] w fun e w' => e = .returned (.bool true) ∧ Below w.heap.size w w' := by
  obtain ⟨a, ca, rfl, s1⟩ := h1.spts
  obtain ⟨b, cb, rfl, s2⟩ := h2.spts
  exact (spots_any a _ ca l b _ cb l w s1 s2).mono fun e w' h => ⟨by rw [h.1]; exact ret_bool (decide_eq_true rfl), h.2⟩
theorem OwnS.below {w w' : World} {base : Nat} {v : Value} {l : List (Int × Int)} (h : OwnS w base v l) (hb : Below w.heap.size w w') : OwnS w' base v l :=
  World.ownsRow.kept h (grown_of_below hb none) (by cases hv : v.ownBlock <;> simp)

theorem h_two (W : World) (g : Fr) (p1 p2 : Nat) (ba da : Option Addr) (bc dc : Nat) (h1 : Bx W p1 g ba bc) (h2 : Bx W p2 g da dc) :
    Calls Tryd.prog 18 #[.slice (some ⟨W.heap.size, 0, none⟩) 1 1, .slice (some ⟨W.heap.size + 1, 0, none⟩) 1 1] ((W.alloc (.cells #[.int .i64 g.ty, .int .i64 g.seq, .slice ba g.body.length bc] 36)).alloc (.cells #[.int .i64 g.ty, .int .i64 g.seq, .slice da g.body.length dc] 36)) fun e w' => e = .returned (.bool true) ∧ Below W.heap.size W w' := by
  have hb : Below W.heap.size W ((W.alloc (.cells #[.int .i64 g.ty, .int .i64 g.seq, .slice ba g.body.length bc] 36)).alloc (.cells #[.int .i64 g.ty, .int .i64 g.seq, .slice da g.body.length dc] 36)) := ((Below.refl _ W).alloc (Nat.le_refl _) _).alloc (by simp) _
  exact (h_samefr _ 1 1 _ 1 [g] _ (Frs.one (heap_alloc2_old W _ _) rfl rfl rfl h1.body hb) (Frs.one (heap_alloc2_new W _ _) rfl rfl rfl h2.body hb)).mono fun e w' h => ⟨h.1, hb.trans (h.2.mono (by simp; omega))⟩

set_option maxRecDepth 100000 in
set_option maxHeartbeats 3200000 in
theorem segmentFinds_walk (a : Option Addr) (len cap : Nat) (bs : List Nat) (every : Int) (he : every ≤ 9223372036854775807) (la : Option Addr) (ll lc : Nat) (xs : List (Int × Int)) (seq : Int) (w : World) (hL : Laid w) (hs : Sl w w.heap.size a len cap bs) (hx : Spts w w.heap.size la ll lc xs) :
    Calls Tryd.prog 4 #[.slice a len cap, .int .i64 every, .slice la ll lc, .int .i64 seq] w fun e w' => e = .returned (.bool true) ∧ Below w.heap.size w w' := by
  have HS := Lib.hid (And.intro hs hx)
  clear hs hx
  go_enter Tryd.func4, Tryd.ntmps4
  go_upto_region 2 with (go_at_call 9; (with_reducible refine (shead_any _ hL).mono ?_); rintro e w1 ⟨rfl, hb⟩; have K1 := Lib.hid (KL.mk hb (hL.on hb)); clear hb)
  clear hL
  by_cases h3 : ll ≤ 300
  · have h3' : decide ((300 : Int) < (ll : Int)) = false := by simp; omega
    by_cases h9 : len ≤ 9000
    · have h9' : decide ((9000 : Int) < (len : Int)) = false := by simp; omega
      have hsA := fun (w' : World) (hb : Below w.heap.size w w') => (HS.out.1.below hb (Nat.le_refl _)).more hb.size
      have hxA := fun (w' : World) (hb : Below w.heap.size w w') => (HS.out.2.below hb (Nat.le_refl _)).more hb.size
      have SA := Lib.hid hsA
      have XA := Lib.hid hxA
      have F1 := Lib.hid (find_look a len cap bs la ll lc xs (by omega) seq w1 (hsA _ K1.out.below) (hxA _ K1.out.below))
      clear hsA hxA
      go_upto_region 5 with (go_at_call 19; refine F1.out.mono ?_; rintro e w2 ⟨ba, bc, rfl, hsf, hb⟩; have H2 := Lib.hid (And.intro hsf (K1.out.on hb)); clear hsf hb)
      have HI : Hid ((fnd (look bs xs seq) seq).isSome = (fnd (look bs xs seq) seq).isSome) := rfl
      generalize hg : (fnd (look bs xs seq) seq).getD Fr.zero = g at H2 ⊢
      generalize his : (fnd (look bs xs seq) seq).isSome = is at HI ⊢
      have hgi := Lib.hid (And.intro hg his)
      clear hg his HI F1 K1
      have B3 := Bx.new H2.out.1
      have K3 := H2.out.2.on ((Below.refl _ w2).alloc (Nat.le_refl _) (.cells #[.int .i64 g.ty, .int .i64 g.seq, .slice ba g.body.length bc] 36))
      generalize w2.alloc (.cells #[.int .i64 g.ty, .int .i64 g.seq, .slice ba g.body.length bc] 36) = w3 at B3 K3 ⊢
      generalize w2.heap.size = p1 at B3 ⊢
      have H3 := Lib.hid (And.intro B3 K3)
      have F2 := rfind_any a len cap bs la ll lc xs (by omega) seq w3 (SA.out _ K3.below) (by omega) (XA.out _ K3.below)
      clear B3 K3 H2
      have F2 := Lib.hid F2
      go_upto_region 6 with (go_at_call 20; refine F2.out.mono ?_; rintro e w4 ⟨da, dc, rfl, hsf, hb⟩; rw [hgi.out.1] at hsf ⊢; rw [hgi.out.2]; have H4 := Lib.hid (And.intro hsf (And.intro (H3.out.1.on hb) (H3.out.2.on hb))); clear hsf hb)
      have B5 := Bx.new H4.out.1
      have hb5 := ((Below.refl _ w4).alloc (Nat.le_refl _) (.cells #[.int .i64 g.ty, .int .i64 g.seq, .slice da g.body.length dc] 36))
      have A5 := H4.out.2.1.on hb5
      have K5 := H4.out.2.2.on hb5
      generalize w4.alloc (.cells #[.int .i64 g.ty, .int .i64 g.seq, .slice da g.body.length dc] 36) = w5 at B5 A5 K5 hb5 ⊢
      generalize w4.heap.size = p2 at B5 hb5 ⊢
      have H5 := Lib.hid (And.intro A5 (And.intro B5 K5))
      clear B5 A5 K5 hb5 H4 H3 F2
      have hri := rix_idx bs HS.out.1.byte every
      have HRI := Lib.hid hri
      clear hri
      go_wp2_with (first
        | (go_at_call 22; refine (index_any a len cap bs every he _ (SA.out _ H5.out.2.2.below) (by omega)).mono ?_; rintro e w6 ⟨v1, rfl, ho, hb⟩; have H6 := Lib.hid (And.intro ho (And.intro (H5.out.1.on hb) (And.intro (H5.out.2.1.on hb) (H5.out.2.2.on hb)))); clear ho hb)
        | (go_at_call 23; refine (rindex_any a len cap bs every he _ (SA.out _ H6.out.2.2.2.below) (by omega)).mono ?_; rintro e w7 ⟨v2, rfl, ho, hb⟩; rw [← HRI.out] at ho; have SP := Lib.hid (h_sp v1 v2 _ w7 _ _ (H6.out.1.below hb) ho); have H7 := Lib.hid (And.intro (H6.out.2.1.on hb) (And.intro (H6.out.2.2.1.on hb) (H6.out.2.2.2.on hb))); clear ho hb)
        | (go_at_call 21; (with_reducible refine SP.out.mono ?_); rintro e w8 ⟨rfl, hb⟩; have H8 := Lib.hid (And.intro (H7.out.1.on hb) (And.intro (H7.out.2.1.on hb) (H7.out.2.2.on hb))); have TW := Lib.hid (h_two w8 g p1 p2 ba da bc dc H8.out.1 H8.out.2.1); have u0 := (cell_of_row w8 p1 0 _ _ _ H8.out.1.frame).trans rfl; have u1 := (cell_of_row w8 p1 1 _ _ _ H8.out.1.frame).trans rfl; have u2 := (cell_of_row w8 p1 2 _ _ _ H8.out.1.frame).trans rfl; have z0 := (cell_of_row w8 p2 0 _ _ _ H8.out.2.1.frame).trans rfl; have z1 := (cell_of_row w8 p2 1 _ _ _ H8.out.2.1.frame).trans rfl; have z2 := (cell_of_row w8 p2 2 _ _ _ H8.out.2.1.frame).trans rfl; have hl2 := lt_of_heap H8.out.2.1.frame; clear hb)
        | (go_at_call 18; (with_reducible refine TW.out.mono ?_); rintro e w9 ⟨rfl, hb⟩; have K9 := Lib.hid (H8.out.2.2.on hb); clear hb))
      go_ret
      exact ⟨ret_bool (by simp), K9.out.below⟩
    · have h9' : decide ((9000 : Int) < (len : Int)) = true := by simp; omega
      go_wp2_with fail
      go_ret
      exact ⟨rfl, K1.out.below⟩
  · have h3' : decide ((300 : Int) < (ll : Int)) = true := by simp; omega
    go_wp2_with fail
    go_ret
    exact ⟨rfl, K1.out.below⟩
end Go.Proofs.YtcmgefccihehkaaDoor
