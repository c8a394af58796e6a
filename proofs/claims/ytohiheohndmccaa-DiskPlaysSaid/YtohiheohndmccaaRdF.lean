/- The reference's disk: put, Delete, Sync. -/
import Derived.Test.YtohiheohndmccaaRdE
namespace Go.Proofs.Ytohiheohndmccaa
open Go.RowKit
open Go.Maps
attribute [local go_sem] Oper.semAt_some

section
variable {w : World} {rp : Nat} {t : St} {O : Nat → Prop} {a : Option Addr} {c : Nat} {es : List REnt}
/-- What a call of it leaves, of which the answer is x. -/
def RMv (w : World) (rp : Nat) (O : Nat → Prop) (t : St) (w' : World) : Prop := ∃ O', Rd w' rp t O' ∧ But O w w' ∧ ∀ k, O' k → O k ∨ w.heap.size ≤ k
theorem RdC.sl_ne (h : RdC w rp t O a c es) : ∀ e ∈ es, 0 < e.bs.length → ∀ b o, e.a = some ⟨b, o, none⟩ → b < w.heap.size := fun e he hp b o ha => h.lt b ((h.bytes e he).2 hp b o ha).1
/-- Another row of files is laid: v, of the call's own, of files that were there (or whose bytes lie in it). -/
theorem RdC.relayC (h : RdC w rp t O a c es) {w1 : World} (hb : Below w.heap.size w w1) {a' : Option Addr} {c' : Nat} {es' : List REnt} {D' : FS} (hown : OwnFl w1 w.heap.size (.slice a' es'.length c') es') (hD : D' = rD es') (hG : Good D' t.room)
    (hby : ∀ e ∈ es', e ∈ es ∨ (Sl w w.heap.size e.a e.bs.length e.c e.bs ∧ (0 < e.bs.length → ∀ b o, e.a = some ⟨b, o, none⟩ → O b ∧ b ≠ rp))) :
    RdC (w1.setCell ⟨rp, 1, none⟩ (.slice a' es'.length c')) rp ⟨D', t.room, t.fuse, t.fails⟩ (fun k => O k ∨ (w.heap.size ≤ k ∧ k < w1.heap.size)) a' c' es' ∧ But O w (w1.setCell ⟨rp, 1, none⟩ (.slice a' es'.length c')) := by
  have h1 := h.below hb
  have hrl := h.lt rp h.rpO
  have hs := heap_setCell_same w1 rp 1 _ _ (.slice a' es'.length c') h1.cells
  have hoth : ∀ k, k ≠ rp → (w1.setCell ⟨rp, 1, none⟩ (.slice a' es'.length c')).heap[k]? = w1.heap[k]? := fun k hk => Below.heap_setCell w1 ⟨rp, 1, none⟩ _ k hk
  have hz : (w1.setCell ⟨rp, 1, none⟩ (.slice a' es'.length c')).heap.size = w1.heap.size := by simp [World.setCell]
  have hob : ∀ g, (Value.slice a' es'.length c').ownBlock = some g → w.heap.size ≤ g ∧ g < w1.heap.size := fun g hg => hown.at_base hg
  refine ⟨⟨hs, ⟨hown.1, ?_⟩, hD, hG, fun e he => ?_, .inl h.rpO, fun g hg => ⟨.inr (hob g hg), by have := (hob g hg).1; omega⟩, fun k hk => ?_, h.fuse_, h.fails_⟩, ?_⟩
  · rcases hown.2 with h2 | ⟨g, cap, cur, e, h2, h3, h4⟩
    · exact .inl h2
    · exact .inr ⟨g, cap, cur, e, Nat.zero_le _, (hoth g (by omega)).trans h3, h4⟩
  · rcases hby e he with he' | ⟨hsl, hn⟩
    · have h2 := h.bytes e he'
      refine ⟨(h1.bytes e he').1.same_ (by omega) (fun hp b o e' => hoth b (h2.2 hp b o e').2.1), fun hp b o e' => ⟨.inl (h2.2 hp b o e').1, (h2.2 hp b o e').2.1, fun hv => ?_⟩⟩
      have := (hob b hv).1
      have := h.lt b (h2.2 hp b o e').1
      omega
    · refine ⟨((hsl.below hb (Nat.le_refl _)).more hb.size).same_ (by omega) (fun hp b o e' => hoth b (hn hp b o e').2), fun hp b o e' => ⟨.inl (hn hp b o e').1, (hn hp b o e').2, fun hv => ?_⟩⟩
      have := (hob b hv).1
      have := h.lt b (hn hp b o e').1
      omega
  · rcases hk with hk | hk
    · have := h1.lt k hk; omega
    · omega
  · exact (But.of_below (O := O) hb).setCell (p := ⟨rp, 1, none⟩) (.inl h.rpO) _
theorem RdC.relay (h : RdC w rp t O a c es) {w1 : World} (hb : Below w.heap.size w w1) {v : Value} {es' : List REnt} {D' : FS} (hown : OwnFl w1 w.heap.size v es') (hD : D' = rD es') (hG : Good D' t.room)
    (hby : ∀ e ∈ es', e ∈ es ∨ (Sl w w.heap.size e.a e.bs.length e.c e.bs ∧ (0 < e.bs.length → ∀ b o, e.a = some ⟨b, o, none⟩ → O b ∧ b ≠ rp))) :
    RMv w rp O ⟨D', t.room, t.fuse, t.fails⟩ (w1.setCell ⟨rp, 1, none⟩ v) := by
  obtain ⟨a', c', rfl⟩ := hown.form
  obtain ⟨h1, h2⟩ := h.relayC hb hown hD hG hby
  exact ⟨_, ⟨a', c', es', h1⟩, h2, fun k hk => by
    rcases hk with hk | hk
    · exact .inl hk
    · exact .inr hk.1⟩
theorem RdC.rfs (h : RdC w rp t O a c es) : RFs w a es.length c es := OwnFl.rfs h.own
theorem rowner {w : World} {rp : Nat} {t : St} {O : Nat → Prop} (h : Rd w rp t O) : RMv w rp O t w := ⟨O, h, But.refl _ _, fun _ hk => .inl hk⟩
theorem RMv.then {w w1 w' : World} {rp : Nat} {O : Nat → Prop} {t : St} (hb : But O w w1) (h : RMv w1 rp O t w') : RMv w rp O t w' := by
  obtain ⟨O', h1, h2, h3⟩ := h
  exact ⟨O', h1, hb.trans h2 (fun _ hi => .inl hi), fun k hk => (h3 k hk).imp id (Nat.le_trans hb.size)⟩
set_option linter.unusedSimpArgs false in
set_option maxRecDepth 100000 in
set_option maxHeartbeats 1600000 in
theorem rdelete_any (h : RdC w rp t O a c es) (s : ByteArray) : Calls Try.prog 28 #[.pointer (some ⟨rp, 0, none⟩), .string s] w fun e w' => e = .returned (.int .i64 (t.delete s.data.toList).1) ∧ RMv w rp O (t.delete s.data.toList).2 w' := by
  by_cases hf : t.fuse = 0
  · have e : t.delete s.data.toList = (42, t) := by unfold St.delete; rw [if_pos hf]
    rw [e]
    have CD := Lib.hid (rcall_dead h hf)
    have HR := Lib.hid (rowner ⟨a, c, es, h⟩)
    clear h
    go_enter Try.func28, Try.ntmps28
    go_wp2_with fail
    refine CD.out.mono ?_
    rintro e1 w1 ⟨rfl, rfl⟩
    go_wp2
    go_ret
    exact ⟨rfl, HR.out⟩
  · have CD := Lib.hid (rcall_do h hf)
    have hcap := h.len_
    by_cases hi : ridx es s.data.toList < es.length
    · obtain ⟨f0, hfat⟩ : ∃ f, fat t.D s.data.toList = some f := by
        obtain ⟨e0, g, _, hf0, _⟩ := h.here hi
        exact ⟨_, hf0⟩
      have e : t.delete s.data.toList = (0, { t.burnt with D := t.D.del (.string s.data.toList) }) := by unfold St.delete; rw [if_neg hf, hfat]
      rw [e]
      have hd := rD_del es s.data.toList h.once hi
      have HH := Lib.hid h
      clear h e
      go_enter Try.func28, Try.ntmps28
      go_wp2_with fail
      refine CD.out.mono ?_
      rintro e1 w1 ⟨rfl, h1, b1⟩
      have AT := rat_any h1 s
      unfold ratI at AT
      rw [if_pos hi] at AT
      have AT := Lib.hid AT
      have c1 := h1.cell.2.1
      have WT := Lib.hid (fun (x : World) (hx : Below w1.heap.size w1 x) => rwithout_any es a es.length c (ridx es s.data.toList) x (h1.rfs.below hx) hi hcap)
      have HL := Lib.hid (fun (w2 : World) (v : Value) (hx : Below w1.heap.size w1 w2) (ho : OwnFl w2 w1.heap.size v (es.take (ridx es s.data.toList) ++ es.drop (ridx es s.data.toList + 1))) =>
        h1.relay hx (D' := t.D.del (.string s.data.toList)) ho (by rw [HH.out.D_, hd]) (HH.out.good.del _) (fun e he => .inl (by
          rcases List.mem_append.1 he with he | he
          · exact List.mem_of_mem_take he
          · exact List.mem_of_mem_drop he)))
      have hrl := h1.lt rp h1.rpO
      have z1 := h1.cell.2.2.2.2 1
      have B1 := Lib.hid b1
      generalize ridx es s.data.toList = i at *
      obtain ⟨n, hn⟩ : ∃ n, n = es.length := ⟨_, rfl⟩
      rw [← hn] at c1 hi hcap WT
      clear h1 b1 CD hd hn
      go_wp2_with fail
      refine AT.out.mono ?_
      rintro e1 w2 ⟨rfl, rfl⟩
      go_wp2_with fail
      with_reducible refine (WT.out _ (Below.refl _ _)).mono ?_
      rintro e1 w3 ⟨v, rfl, ho, hb⟩
      have q1 := (hb.cell (p := ⟨rp, 1, none⟩) hrl).trans c1
      have y1 := (World.frozen?_of_block (w := w1) (a := ⟨rp, 1, none⟩) (hb.block rp hrl)).trans z1
      have HF := HL.out w3 v hb ho
      obtain ⟨a9, c9, hv9⟩ := ho.form
      subst hv9
      generalize (es.take i ++ es.drop (i + 1)).length = n9 at HF ⊢
      have HF := Lib.hid HF
      clear ho hb WT HL
      go_wp2
      go_ret
      exact ⟨rfl, RMv.then B1.out HF.out⟩
    · have e : t.delete s.data.toList = (3, t.burnt) := by unfold St.delete; rw [if_neg hf, h.gone_ hi]
      rw [e]
      clear h e
      go_enter Try.func28, Try.ntmps28
      go_wp2_with fail
      refine CD.out.mono ?_
      rintro e1 w1 ⟨rfl, h1, b1⟩
      have AT := rat_any h1 s
      unfold ratI at AT
      rw [if_neg hi] at AT
      have AT := Lib.hid AT
      have HR := Lib.hid (RMv.then b1 (rowner ⟨a, c, es, h1⟩))
      clear h1 b1 CD
      go_wp2_with fail
      refine AT.out.mono ?_
      rintro e1 w2 ⟨rfl, rfl⟩
      go_wp2
      go_ret
      exact ⟨rfl, HR.out⟩
end
end Go.Proofs.Ytohiheohndmccaa
