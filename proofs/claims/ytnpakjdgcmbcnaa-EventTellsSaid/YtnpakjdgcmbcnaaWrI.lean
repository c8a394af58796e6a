/- A writer of bytes in memory; the program's Num, Text, Bytes. -/
import Derived.Test.YtnpakjdgcmbcnaaWrH
import Derived.Maps.Range
namespace Go.Proofs.Ytnpakjdgcmbcnaa
open Go.RowKit
open Wir

/-- A writer at p that has written bs; O is what is its own. -/
structure WtrC (T : TypeId) (w : World) (p : Nat) (v : Value) (bs : List Nat) (O : Nat → Prop) : Prop where
  cells : w.heap[p]? = some (.cells #[v] T (0, 0))
  own : OwnB w (p + 1) 5 v bs
  ownO : ∀ b, v.ownBlock = some b → O b
  byte : ∀ c ∈ bs, c < 256
  pO : O p
  lt : ∀ k, O k → k < w.heap.size
def Wtr (T : TypeId) (w : World) (p : Nat) (bs : List Nat) (O : Nat → Prop) : Prop := ∃ v, WtrC T w p v bs O
/-- What a call of it leaves. -/
def WMv (T : TypeId) (w : World) (p : Nat) (bs : List Nat) (O : Nat → Prop) (w' : World) : Prop := ∃ O', Wtr T w' p bs O' ∧ But O w w' ∧ ∀ k, O' k → O k ∨ w.heap.size ≤ k
theorem OwnB.form {w : World} {base : Nat} {e : TypeId} {v : Value} {bs : List Nat} (h : OwnB w base e v bs) : ∃ a n c, v = .slice a n c := by
  rcases h.2 with ⟨rfl, _⟩ | ⟨g, cap, cur, rfl, _⟩
  · exact ⟨_, _, _, rfl⟩
  · exact ⟨_, _, _, rfl⟩
section
variable {T : TypeId} {w : World} {p : Nat} {v : Value} {bs : List Nat} {O : Nat → Prop}
theorem own_same {w' : World} {base : Nat} {e : TypeId} (h : OwnB w base e v bs) (hk : ∀ b, v.ownBlock = some b → w'.heap[b]? = w.heap[b]?) : OwnB w' base e v bs := by
  refine ⟨h.1, ?_⟩
  rcases h.2 with h1 | ⟨g, cap, cur, rfl, h2, h3, h4⟩
  · exact .inl h1
  · exact .inr ⟨g, cap, cur, rfl, h2, (hk g rfl).trans h3, h4⟩
theorem WtrC.same {w' : World} (h : WtrC T w p v bs O) (hk : ∀ k, O k → w'.heap[k]? = w.heap[k]?) (hz : w.heap.size ≤ w'.heap.size) : WtrC T w' p v bs O :=
  ⟨(hk p h.pO).trans h.cells, own_same h.own (fun b hb => hk b (h.ownO b hb)), h.ownO, h.byte, h.pO, fun k ho => Nat.lt_of_lt_of_le (h.lt k ho) hz⟩
theorem Wtr.same {w' : World} (h : Wtr T w p bs O) (hk : ∀ k, O k → w'.heap[k]? = w.heap[k]?) (hz : w.heap.size ≤ w'.heap.size) : Wtr T w' p bs O := let ⟨v, h⟩ := h; ⟨v, h.same hk hz⟩
theorem Wtr.lt (h : Wtr T w p bs O) : ∀ k, O k → k < w.heap.size := let ⟨_, h⟩ := h; h.lt
theorem Wtr.byte (h : Wtr T w p bs O) : ∀ c ∈ bs, c < 256 := let ⟨_, h⟩ := h; h.byte
theorem Wtr.below {w' : World} (h : Wtr T w p bs O) (hb : Below w.heap.size w w') : Wtr T w' p bs O := h.same (fun k hk => hb.block k (h.lt k hk)) hb.size
theorem Wtr.but {w' : World} {P : Nat → Prop} (h : Wtr T w p bs O) (hb : But P w w') (hno : ∀ k, O k → ¬ P k) : Wtr T w' p bs O := h.same (fun k hk => hb.block k (h.lt k hk) (hno k hk)) hb.size
/-- More bytes were appended to what is owned, and the slice is stored. -/
theorem WtrC.put (h : WtrC T w p v bs O) {w2 w3 : World} {v1 : Value} {cs : List Nat} (hb : Below w.heap.size w w2) (hown : OwnB w3 (p + 1) 5 v1 (bs ++ cs)) (hg : w2.grownBy w3 v.ownBlock)
    (hat : v1.ownBlock = v.ownBlock ∨ v1.ownBlock = some w2.heap.size) (hc : ∀ c ∈ cs, c < 256) : WMv T w p (bs ++ cs) O (w3.setCell ⟨p, 0, none⟩ v1) := by
  have hz2 := hb.size
  have hz3 := hg.size
  have hpl := h.lt p h.pO
  have hz : (w3.setCell ⟨p, 0, none⟩ v1).heap.size = w3.heap.size := by simp [World.setCell]
  have hvp : v.ownBlock ≠ some p := fun e => by have := (h.own.at_base e).1; omega
  have hp3 : w3.heap[p]? = some (.cells #[v] T (0, 0)) := (hg.block p (by omega) (Ne.symm hvp)).trans ((hb.block p hpl).trans h.cells)
  have hB3 : But O w w3 := (But.of_below (O := O) hb).trans (But.grown hg (fun k hk => h.ownO k hk)) (fun i hi => .inl hi)
  refine ⟨fun k => O k ∨ (w.heap.size ≤ k ∧ k < w3.heap.size), ⟨v1, ⟨?_, ?_, fun b hb' => ?_, fun c hc' => ?_, .inl h.pO, fun k hk => ?_⟩⟩, hB3.setCell (p := ⟨p, 0, none⟩) (.inl h.pO) v1, fun k hk => ?_⟩
  · exact heap_setCell_same _ _ _ _ _ _ hp3
  · exact own_same hown (fun b hb' => Below.heap_setCell w3 ⟨p, 0, none⟩ v1 b (by have := (hown.at_base hb').1; show b ≠ p; omega))
  · rcases hat with e | e
    · exact .inl (h.ownO b (by rw [← e]; exact hb'))
    · rw [e] at hb'
      injection hb' with hb'
      subst hb'
      exact .inr ⟨hz2, (hown.at_base e).2⟩
  · rcases List.mem_append.1 hc' with hc' | hc'
    · exact h.byte c hc'
    · exact hc c hc'
  · rw [hz]
    rcases hk with hk | hk
    · have := h.lt k hk; omega
    · exact hk.2
  · rcases hk with hk | hk
    · exact .inl hk
    · exact .inr hk.1
theorem WtrC.cell3 (h : WtrC T w p v bs O) {w2 w3 : World} (hb : Below w.heap.size w w2) (hg : w2.grownBy w3 v.ownBlock) : w3.cell? ⟨p, 0, none⟩ = some v ∧ w3.frozen? ⟨p, 0, none⟩ = false := by
  have hpl := h.lt p h.pO
  have hz2 := hb.size
  have hvp : v.ownBlock ≠ some p := fun e => by have := (h.own.at_base e).1; omega
  have hp3 : w3.heap[p]? = some (.cells #[v] T (0, 0)) := (hg.block p (by omega) (Ne.symm hvp)).trans ((hb.block p hpl).trans h.cells)
  exact ⟨by rw [cell_of_row _ _ 0 _ _ _ hp3]; rfl, frozen_of_row _ _ 0 _ _ hp3⟩
theorem WMv.start (h : Wtr T w p bs O) : WMv T w p bs O w := ⟨O, h, But.refl _ _, fun _ hk => .inl hk⟩
theorem WMv.then_ {w1 w2 : World} {O1 : Nat → Prop} {cs : List Nat} (hb : But O w w1) (hO : ∀ k, O1 k → O k ∨ w.heap.size ≤ k) (k : WMv T w1 p cs O1 w2) : WMv T w p cs O w2 := by
  obtain ⟨O2, h1, h2, h3⟩ := k
  refine ⟨O2, h1, hb.trans h2 hO, fun i hi => ?_⟩
  rcases h3 i hi with h4 | h4
  · exact hO i h4
  · exact .inr (Nat.le_trans hb.size h4)
theorem WMv.below {w1 w2 : World} {cs : List Nat} (hb : Below w.heap.size w w1) (k : WMv T w1 p cs O w2) : WMv T w p cs O w2 := WMv.then_ (But.of_below hb) (fun _ h => .inl h) k
end
theorem or_top (c : Nat) : bits .or .u8 ((c : Int) % 256) 128 = ((c % 128 + 128 : Nat) : Int) := by
  have key : ∀ x : Nat, x < 256 → x ||| 128 = x % 128 + 128 := by decide +kernel
  have h1 := key (c % 256) (Nat.mod_lt _ (by decide))
  have e1 : (c : Int) % 256 = ((c % 256 : Nat) : Int) := by omega
  rw [e1]
  show IntKind.u8.wrap ((BitVec.ofInt 8 ((c % 256 : Nat) : Int) ||| BitVec.ofInt 8 128).toNat : Int) = _
  rw [BitVec.toNat_or]
  have e2 : (BitVec.ofInt 8 ((c % 256 : Nat) : Int)).toNat = c % 256 := by simp [BitVec.toNat_ofInt]; omega
  have e3 : (BitVec.ofInt 8 128).toNat = 128 := by decide
  rw [e2, e3, h1, IntKind.wrap_u8]
  omega
set_option linter.unusedSimpArgs false in
set_option maxRecDepth 100000 in
set_option maxHeartbeats 1600000 in
theorem wnum_any {T : TypeId} {w : World} {p : Nat} {bs : List Nat} {O : Nat → Prop} (h : Wtr T w p bs O) (n : Int) (h1 : -9223372036854775808 ≤ n) (h2 : n ≤ 9223372036854775807) (hlen : bs.length ≤ 1000000000) :
    Calls Try.prog 103 #[.pointer (some ⟨p, 0, none⟩), .int .i64 n] w fun e w' => e = .returned (.tuple #[]) ∧ WMv T w p (bs ++ dg (cnt n)) O w' := by
  have CO := Lib.hid (countOf_any n h1 h2 w)
  have hcl := cnt_lt h1 h2
  have hdl := dg_le hcl
  have HS := Lib.hid (WMv.start h)
  clear h
  generalize cnt n = C at *
  go_enter Try.func103, Try.ntmps103
  go_wp2_with fail
  refine CO.out.mono ?_
  rintro e w1 ⟨rfl, rfl⟩
  go_wp2_with fail
  go_loopw [4] (fun i wx => ∃ (c : Nat) (ds : List Nat), i = .int .u64 (c : Int) ∧ c ≤ C ∧ dg C = ds ++ dg c ∧ WMv T w1 p (bs ++ ds) O wx) (fun i _ => (intOf i).toNat)
  case atStart => exact ⟨C, [], rfl, Nat.le_refl _, rfl, by simpa using HS.out⟩
  case round =>
    obtain ⟨c, ds, rfl, hcC, hds, O1, ⟨v, hv⟩, hbut, hnew⟩ := hrel
    have hdl2 : ds.length ≤ 10 := by have := congrArg List.length hds; simp at this; omega
    have k0 := cell_of_row _ _ 0 _ _ _ hv.cells
    have z0 := frozen_of_row _ _ 0 _ _ hv.cells
    simp at k0
    have hpl := hv.lt p hv.pO
    have hown := hv.own
    have HV := Lib.hid (And.intro hv (And.intro hbut hnew))
    have Hd := Lib.hid hds
    have hbl : (bs ++ ds).length ≤ 1000000010 := by simp; omega
    clear hv hbut hnew hds
    generalize hB : bs ++ ds = B at hown HV hbl
    have HB := Lib.hid hB
    clear hB
    by_cases hc : c < 128
    · have hc' : ¬ (128 : Int) ≤ (c : Int) := by omega
      have hw : IntKind.u8.wrap (c : Int) = (c : Int) := by rw [IntKind.wrap_u8]; omega
      have HX := Lib.hid (dg_lo hc)
      go_wp2_with (at_builtin; refine wpList_append_sl rfl (.tmp 27) (.tmp 30) _ rfl (p + 1) _ Try.underlying28 info_u8 v B rfl (hown.alloc _) _ (some ⟨wr.heap.size, 0, none⟩) 1 1 [c] rfl (Sl.one _ _ (by omega)) (by simp; omega) (by simp; omega) ?_; intro v1 w3 hown1 hg1 hat1; obtain ⟨k3, z3⟩ := HV.out.1.cell3 ((Below.refl _ _).alloc (Nat.le_refl _) _) hg1; have H3 := Lib.hid (And.intro hown1 (And.intro hg1 hat1)); obtain ⟨a1, n1, y1, rfl⟩ := hown1.form; clear hown1 hg1 hat1 k0 z0 hown)
      go_end0
      obtain ⟨q1, q2, q3⟩ := HV.out
      refine ⟨rfl, WMv.then_ q2 q3 ?_⟩
      have := q1.put (cs := [c]) ((Below.refl _ _).alloc (Nat.le_refl _) _) H3.out.1 H3.out.2.1 H3.out.2.2 (by simp; omega)
      rw [Hd.out, HX.out, ← List.append_assoc, HB.out]
      exact this
    · have hc' : (128 : Int) ≤ (c : Int) := by omega
      obtain ⟨x, hx⟩ : ∃ x, x = c % 128 + 128 := ⟨_, rfl⟩
      have hor := or_top c
      rw [← hx] at hor
      have hxl : x < 256 := by omega
      have HX := Lib.hid (dg_hi hc)
      rw [← hx] at HX
      clear hx
      go_wp2_with (at_builtin; refine wpList_append_sl rfl (.tmp 15) (.tmp 19) _ rfl (p + 1) _ Try.underlying28 info_u8 v B rfl (hown.alloc _) _ (some ⟨wr.heap.size, 0, none⟩) 1 1 [x] rfl (Sl.one _ _ hxl) (by simp; omega) (by simp; omega) ?_; intro v1 w3 hown1 hg1 hat1; obtain ⟨k3, z3⟩ := HV.out.1.cell3 ((Below.refl _ _).alloc (Nat.le_refl _) _) hg1; have H3 := Lib.hid (And.intro hown1 (And.intro hg1 hat1)); obtain ⟨a1, n1, y1, rfl⟩ := hown1.form; clear hown1 hg1 hat1 k0 z0 hown)
      go_roundw
      case rel =>
        obtain ⟨q1, q2, q3⟩ := HV.out
        have := q1.put (cs := [x]) ((Below.refl _ _).alloc (Nat.le_refl _) _) H3.out.1 H3.out.2.1 H3.out.2.2 (by simp; omega)
        exact ⟨c / 128, ds ++ [x], by go_num, by omega, by rw [Hd.out, HX.out, List.append_assoc]; rfl, WMv.then_ q2 q3 (by rw [← List.append_assoc, HB.out]; exact this)⟩
      case measure => simp [intOf]; omega
set_option linter.unusedSimpArgs false in
set_option maxRecDepth 100000 in
set_option maxHeartbeats 1600000 in
theorem wtext_any {T : TypeId} {w : World} {p : Nat} {bs : List Nat} {O : Nat → Prop} (h : Wtr T w p bs O) (a : Option Addr) (len cap : Nat) (t : List Nat) (hs : Sl w w.heap.size a len cap t) (hfar : 0 < len → ∀ b o, a = some ⟨b, o, none⟩ → ¬ O b)
    (hlen : bs.length ≤ 1000000000) (hl : len ≤ 1000000000) :
    Calls Try.prog 104 #[.pointer (some ⟨p, 0, none⟩), .slice a len cap] w fun e w' => e = .returned (.tuple #[]) ∧ WMv T w p (bs ++ (dg (cnt (len : Int)) ++ t)) O w' := by
  have NU := Lib.hid (wnum_any h (len : Int) (by omega) (by omega) hlen)
  have hdl := dg_le (cnt_lt (n := (len : Int)) (by omega) (by omega))
  have htl := hs.length
  have hS := Lib.hid (And.intro hs hfar)
  clear h hs hfar
  go_enter Try.func104, Try.ntmps104
  go_wp2_with fail
  refine NU.out.mono ?_
  rintro e w1 ⟨rfl, O1, ⟨v, hv⟩, hbut, hnew⟩
  have k0 := cell_of_row _ _ 0 _ _ _ hv.cells
  simp at k0
  have hpl := hv.lt p hv.pO
  have hown := hv.own
  have hs1 := hS.out.1.same_ hbut.size (fun hp b o e => hbut.block b (by obtain ⟨b', o', e', hlt, _⟩ := hS.out.1.at_ hp; rw [e] at e'; injection e' with e'; injection e' with e'; omega) (hS.out.2 hp b o e))
  have HT := Lib.hid hs1.byte
  have HV := Lib.hid (And.intro hv (And.intro hbut hnew))
  have hbl : (bs ++ dg (cnt (len : Int))).length ≤ 1000000010 := by simp; omega
  clear hv hbut hnew
  generalize hB : bs ++ dg (cnt (len : Int)) = B at hown HV hbl
  have HB := Lib.hid hB
  clear hB
  go_wp2_with (at_builtin; refine wpList_append_sl rfl (.tmp 12) (.tmp 13) _ rfl (p + 1) _ Try.underlying28 info_u8 v B rfl hown _ a len cap t rfl hs1 (by omega) (by omega) ?_; intro v1 w3 hown1 hg1 hat1; obtain ⟨k3, z3⟩ := HV.out.1.cell3 (Below.refl _ _) hg1; have H3 := Lib.hid (And.intro hown1 (And.intro hg1 hat1)); obtain ⟨a1, n1, y1, rfl⟩ := hown1.form; clear hown1 hg1 hat1 k0 hown hs1)
  go_end0
  obtain ⟨q1, q2, q3⟩ := HV.out
  refine ⟨rfl, WMv.then_ q2 q3 ?_⟩
  have := q1.put (cs := t) (Below.refl _ _) H3.out.1 H3.out.2.1 H3.out.2.2 HT.out
  rw [← List.append_assoc, HB.out]
  exact this
theorem wbytes_own {T : TypeId} {w : World} {p : Nat} {bs : List Nat} {O : Nat → Prop} (h : Wtr T w p bs O) (hlen : bs.length ≤ 2000000000) :
    Calls Try.prog 42 #[.pointer (some ⟨p, 0, none⟩)] w fun e w' => ∃ v, e = .returned v ∧ OwnB w' w.heap.size 5 v bs ∧ Below w.heap.size w w' := by
  obtain ⟨v, hv⟩ := h
  obtain ⟨a, cap, rfl, hs⟩ := hv.own.sl hv.byte
  have k0 := cell_of_row _ _ 0 _ _ _ hv.cells
  simp at k0
  have hpl := hv.lt p hv.pO
  have CL := Lib.hid (clone_own a bs.length cap bs w hs (by omega))
  clear hs hv
  go_enter Try.func42, Try.ntmps42
  go_wp2_with fail
  refine CL.out.mono ?_
  rintro e w1 ⟨v, rfl, hr⟩
  have H := Lib.hid hr
  clear hr
  go_wp2
  go_ret
  exact ⟨v, rfl, H.out⟩
theorem wbytes_any {T : TypeId} {w : World} {p : Nat} {bs : List Nat} {O : Nat → Prop} (h : Wtr T w p bs O) (hlen : bs.length ≤ 2000000000) :
    Calls Try.prog 42 #[.pointer (some ⟨p, 0, none⟩)] w fun e w' => ∃ a c, e = .returned (.slice a bs.length c) ∧ Sl w' w'.heap.size a bs.length c bs ∧ Below w.heap.size w w' ∧ ∀ b o, a = some ⟨b, o, none⟩ → w.heap.size ≤ b :=
  (wbytes_own h hlen).mono fun e w' ⟨v, h1, h2, h3⟩ => by
    obtain ⟨a2, c2, hv, hs4, hbb⟩ := h2.sl_base h.byte
    subst hv
    exact ⟨a2, c2, h1, hs4, h3, hbb⟩
/-- A writer that has just been made. -/
theorem Wtr.new {T : TypeId} (w : World) : Wtr T (w.alloc (.cells #[.slice none 0 0] T)) w.heap.size [] (fun k => k = w.heap.size) :=
  ⟨.slice none 0 0, heap_alloc_new _ _, OwnB.nil_ _ _ _, (fun b hb => by cases hb), (fun c hc => by cases hc), rfl, (fun k hk => by subst hk; simp)⟩
end Go.Proofs.Ytnpakjdgcmbcnaa
