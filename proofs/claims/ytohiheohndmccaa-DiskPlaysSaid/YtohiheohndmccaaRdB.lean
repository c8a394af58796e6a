/- The reference's disk: New, call, Fuse, Fail, Name, at, Used, Synced. -/
import Derived.Test.YtohiheohndmccaaRdA
import Derived.Test.YtohiheohndmccaaDkH
namespace Go.Proofs.Ytohiheohndmccaa
open Go.RowKit
open Go.Maps
attribute [local go_sem] Oper.semAt_some

theorem rnew_no (room : Int) (hr : ¬ (0 ≤ room ∧ room ≤ 1048576)) (w : World) : Calls Try.prog 6 #[.int .i64 room] w fun e w' => e = .returned (.pointer none) ∧ w = w' := by
  by_cases h0 : room < 0
  · go_enter Try.func6, Try.ntmps6
    go_wp2
    go_ret
    exact ⟨rfl, rfl⟩
  · have h1 : 1048576 < room := by omega
    go_enter Try.func6, Try.ntmps6
    go_wp2
    go_ret
    exact ⟨rfl, rfl⟩
theorem rd_new (w : World) (room : Nat) (hr : room ≤ 1048576) : Rd (w.alloc (.cells #[.int .i64 (room : Int), .slice none 0 0, .int .i64 (-1), .int .i64 0] 54)) w.heap.size ⟨.map [], room, -1, 0⟩ (fun k => k = w.heap.size) :=
  ⟨none, 0, [], heap_alloc_new w _, World.ownsRow_nil _ _ _ _, rfl, Good.empty hr, fun e he => (by cases he), rfl, fun g hg => (by cases hg), fun k hk => by subst hk; simp, ⟨by show (-1 : Int) ≤ -1; omega, by show (-1 : Int) ≤ _; omega⟩, ⟨by show (0 : Int) ≤ 0; omega, by show (0 : Int) ≤ _; omega⟩⟩
theorem rnew_yes (room : Nat) (hr : room ≤ 1048576) (w : World) : Calls Try.prog 6 #[.int .i64 (room : Int)] w fun e w' => e = .returned (.pointer (some ⟨w.heap.size, 0, none⟩)) ∧ Below w.heap.size w w' ∧ Rd w' w.heap.size ⟨.map [], room, -1, 0⟩ (fun k => k = w.heap.size) := by
  have HD := Lib.hid (rd_new w room hr)
  go_enter Try.func6, Try.ntmps6
  go_wp2
  go_ret
  exact ⟨rfl, (Below.refl _ _).alloc (Nat.le_refl _) _, HD.out⟩
section
variable {w : World} {rp : Nat} {t : St} {O : Nat → Prop} {a : Option Addr} {c : Nat} {es : List REnt}
/-- A number of the disk's own is set. -/
theorem RdC.set_ (h : RdC w rp t O a c es) (j : Nat) (u : Value) {fuse' fails' : Int} (hc : ((#[.int .i64 (t.room : Int), .slice a es.length c, .int .i64 t.fuse, .int .i64 t.fails] : Array Value).setIfInBounds j u) = #[.int .i64 (t.room : Int), .slice a es.length c, .int .i64 fuse', .int .i64 fails'])
    (hf : -1 ≤ fuse' ∧ fuse' ≤ 9223372036854775807) (hl : 0 ≤ fails' ∧ fails' ≤ 9223372036854775807) : RdC (w.setCell ⟨rp, j, none⟩ u) rp ⟨t.D, t.room, fuse', fails'⟩ O a c es := by
  have hs := heap_setCell_same w rp j _ _ u h.cells
  rw [hc] at hs
  have hz : w.heap.size ≤ (w.setCell ⟨rp, j, none⟩ u).heap.size := by simp [World.setCell]
  have hoth : ∀ k, k ≠ rp → (w.setCell ⟨rp, j, none⟩ u).heap[k]? = w.heap[k]? := fun k hk => Below.heap_setCell w ⟨rp, j, none⟩ u k hk
  refine ⟨hs, ⟨h.own.1, ?_⟩, h.D_, h.good, fun e he => ⟨(h.bytes e he).1.same_ hz (fun hp b o e' => hoth b ((h.bytes e he).2 hp b o e').2.1), (h.bytes e he).2⟩, h.rpO, h.ownO, fun k ho => by simpa [World.setCell] using h.lt k ho, hf, hl⟩
  rcases h.own.2 with h1 | ⟨g, cap, cur, e, h1, h2, h3⟩
  · exact .inl h1
  · exact .inr ⟨g, cap, cur, e, h1, (hoth g (h.ownO g (by rw [e]; rfl)).2).trans h2, h3⟩
theorem rcall_dead (h : RdC w rp t O a c es) (hf : t.fuse = 0) : Calls Try.prog 46 #[.pointer (some ⟨rp, 0, none⟩)] w fun e w' => e = .returned (.bool false) ∧ w = w' := by
  have c2 := h.cell.2.2.1
  rw [hf] at c2
  clear h hf
  go_enter Try.func46, Try.ntmps46
  go_wp2
  go_ret
  exact ⟨rfl, rfl⟩
set_option maxRecDepth 100000 in
theorem rcall_do (h : RdC w rp t O a c es) (hf : t.fuse ≠ 0) : Calls Try.prog 46 #[.pointer (some ⟨rp, 0, none⟩)] w fun e w' => e = .returned (.bool true) ∧ RdC w' rp t.burnt O a c es ∧ But O w w' := by
  have c2 := h.cell.2.2.1
  have c3 := h.cell.2.2.2.2 2
  have hfb := h.fuse_
  have hn : (t.fuse == 0) = false := by simp [hf]
  by_cases hp : 0 < t.fuse
  · have hb : t.burnt = ⟨t.D, t.room, t.fuse - 1, t.fails⟩ := by unfold St.burnt burn; rw [if_pos hp]
    rw [hb]
    have h1 := h.set_ 2 (.int .i64 (t.fuse - 1)) (fuse' := t.fuse - 1) (fails' := t.fails) rfl (by omega) h.fails_
    have HK := Lib.hid (And.intro h1 ((But.refl O w).setCell (p := ⟨rp, 2, none⟩) (.inl h.rpO) (.int .i64 (t.fuse - 1))))
    have hw : IntKind.i64.wrap (t.fuse - 1) = t.fuse - 1 := by rw [IntKind.wrap_i64]; omega
    clear h hb h1 hfb
    generalize t.fuse = fz at *
    go_enter Try.func46, Try.ntmps46
    go_wp2
    go_ret
    exact ⟨rfl, HK.out.1, HK.out.2⟩
  · have hb : t.burnt = t := by unfold St.burnt burn; rw [if_neg hp]
    rw [hb]
    have HK := Lib.hid h
    clear h hb hfb
    generalize hfz : t.fuse = fz at *
    have Hfz := Lib.hid hfz
    clear hfz
    go_enter Try.func46, Try.ntmps46
    go_wp2
    go_ret
    exact ⟨rfl, HK.out, But.refl _ _⟩
set_option maxRecDepth 100000 in
theorem rfuse_any (h : RdC w rp t O a c es) (n : Int) (hn : n ≤ 9223372036854775807) :
    Calls Try.prog 29 #[.pointer (some ⟨rp, 0, none⟩), .int .i64 n] w fun e w' => e = .returned (.tuple #[]) ∧ RdC w' rp (t.fuse_ n) O a c es ∧ But O w w' := by
  have c2 := h.cell.2.2.1
  have z2 := h.cell.2.2.2.2 2
  have hm := fun (x : World) => max2_any n (-1) x
  have h2 := h.set_ 2 (.int .i64 (max n (-1))) (fuse' := max n (-1)) (fails' := t.fails) rfl (by omega) h.fails_
  have H := Lib.hid (And.intro h2 ((But.refl O w).setCell (p := ⟨rp, 2, none⟩) (.inl h.rpO) (.int .i64 (max n (-1)))))
  have HF : Hid (t.fuse_ n = ⟨t.D, t.room, max n (-1), t.fails⟩) := rfl
  clear h h2 hn
  generalize max n (-1) = m at *
  go_enter Try.func29, Try.ntmps29
  go_wp2
  go_end0
  exact ⟨rfl, by rw [HF.out]; exact H.out.1, H.out.2⟩
set_option maxRecDepth 100000 in
theorem rfail_any (h : RdC w rp t O a c es) (n : Int) (hn : n ≤ 9223372036854775807) :
    Calls Try.prog 30 #[.pointer (some ⟨rp, 0, none⟩), .int .i64 n] w fun e w' => e = .returned (.tuple #[]) ∧ RdC w' rp (t.fail_ n) O a c es ∧ But O w w' := by
  have c2 := h.cell.2.2.2.1
  have z2 := h.cell.2.2.2.2 3
  have hm := fun (x : World) => max2_any n 0 x
  have h2 := h.set_ 3 (.int .i64 (max n 0)) (fuse' := t.fuse) (fails' := max n 0) rfl h.fuse_ (by omega)
  have H := Lib.hid (And.intro h2 ((But.refl O w).setCell (p := ⟨rp, 3, none⟩) (.inl h.rpO) (.int .i64 (max n 0))))
  have HF : Hid (t.fail_ n = ⟨t.D, t.room, t.fuse, max n 0⟩) := rfl
  clear h h2 hn
  generalize max n 0 = m at *
  go_enter Try.func30, Try.ntmps30
  go_wp2
  go_end0
  exact ⟨rfl, by rw [HF.out]; exact H.out.1, H.out.2⟩
theorem ba_listR {a b : ByteArray} (h : a.data.toList = b.data.toList) : a = b := by
  obtain ⟨⟨x⟩⟩ := a
  obtain ⟨⟨y⟩⟩ := b
  have h : x = y := h
  rw [h]
theorem str_eqR {a b : ByteArray} (h : a = b) : (a.toList == b.toList) = true := by rw [h]; simp
theorem str_neR {a b : ByteArray} (h : ¬ a = b) : (a.toList == b.toList) = false := by
  rw [beq_eq_false_iff_ne]
  intro e
  rw [ByteArray.toList_eq, ByteArray.toList_eq] at e
  exact h (ba_listR e)
/-- Where a file is, as a number; below 0: nowhere. -/
def ratI (es : List REnt) (s : List UInt8) : Int := if ridx es s < es.length then ((ridx es s : Nat) : Int) else -1
set_option linter.unusedSimpArgs false in
set_option maxRecDepth 100000 in
set_option maxHeartbeats 1600000 in
theorem rat_any (h : RdC w rp t O a c es) (s : ByteArray) : Calls Try.prog 34 #[.pointer (some ⟨rp, 0, none⟩), .string s] w fun e w' => e = .returned (.int .i64 (ratI es s.data.toList)) ∧ w = w' := by
  have c1 := h.cell.2.1
  have hcap : es.length ≤ 9223372036854775807 := by
    by_cases hp : 0 < es.length
    · obtain ⟨g, _, _, _, _, h1, h2, _⟩ := h.at_ hp
      unfold maxLen at h2
      omega
    · omega
  have HH := Lib.hid h
  clear h
  obtain ⟨n, hn⟩ : ∃ n, n = es.length := ⟨_, rfl⟩
  rw [← hn] at c1 hcap
  have HN := Lib.hid hn
  clear hn
  go_enter Try.func34, Try.ntmps34
  go_wp2_with fail
  go_loopw [5] (fun i wr => ∃ k : Nat, k ≤ n ∧ i = .int .i64 (k : Int) ∧ (∀ j e, j < k → es[j]? = some e → e.s ≠ s.data.toList) ∧ wr = w) (fun i _ => n - (intOf i).toNat)
  case atStart => exact ⟨0, Nat.zero_le _, rfl, fun j e hj => by omega, rfl⟩
  case round =>
    obtain ⟨k, hk, rfl, hno, rfl⟩ := hrel
    by_cases hlt : k < n
    · obtain ⟨g, hg, _, _, _, _, _, hc⟩ := HH.out.at_ (by have := HN.out; omega)
      subst hg
      have hke : k < es.length := by have := HN.out; omega
      have q0 := (hc k es[k] (List.getElem?_eq_getElem hke)).1
      obtain ⟨e0, he0⟩ : ∃ e0, e0 = es[k] := ⟨_, rfl⟩
      rw [← he0] at q0
      have HE := Lib.hid (show es[k]? = some e0 by rw [he0]; exact List.getElem?_eq_getElem hke)
      have HNo := Lib.hid hno
      clear hc hno he0 hke
      by_cases hs : (⟨e0.s.toArray⟩ : ByteArray) = s
      · have hes : e0.s = s.data.toList := by rw [← hs]
        have Hr := Lib.hid (show ratI es s.data.toList = (k : Int) by
          unfold ratI
          rw [ridx_hit es _ k e0 HNo.out HE.out hes, if_pos (by have := HN.out; omega)])
        have hb := str_eqR hs
        have hb2 : (e0.s == s.toList) = true := by rw [hes, ByteArray.toList_eq]; simp
        clear hs hes
        go_wp2
        go_ret
        exact ⟨ret_i64 Hr.out.symm, rfl⟩
      · have hb := str_neR hs
        have hes : e0.s ≠ s.data.toList := fun h' => hs (by
          apply ByteArray.ext
          show e0.s.toArray = s.data
          rw [h'])
        have hb2 : (e0.s == s.toList) = false := by rw [ByteArray.toList_eq, beq_eq_false_iff_ne]; exact hes
        have Hes := Lib.hid hes
        clear hes
        go_wp2
        go_roundw
        case measure => simp [intOf]; omega
        case rel =>
        refine ⟨k + 1, by omega, by go_num, fun j e hj he => ?_, by trivial⟩
        by_cases hjk : j = k
        · subst hjk
          have := he.symm.trans HE.out
          injection this with this
          rw [this]
          exact Hes.out
        · exact HNo.out j e (by omega) he
    · have hkn : k = n := by omega
      have Hr := Lib.hid (show ratI es s.data.toList = -1 by
        unfold ratI
        have h1 := ridx_skip es s.data.toList k hno (by have := HN.out; omega)
        rw [if_neg (by have := HN.out; omega)])
      clear hno
      go_wp2
      go_ret
      exact ⟨ret_i64 Hr.out.symm, rfl⟩
end
end Go.Proofs.Ytohiheohndmccaa
