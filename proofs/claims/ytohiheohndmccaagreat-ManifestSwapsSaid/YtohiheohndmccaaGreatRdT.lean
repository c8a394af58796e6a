/- The reference's disk: mathematics of Crash. The reference's disk: Crash: what is kept round by round. The reference's disk: Crash. -/
import Derived.Test.YtohiheohndmccaaGreatRdQ
import Derived.Test.YtohiheohndmccaaGreatAp
namespace Go.Proofs.YtohiheohndmccaaGreat
set_option linter.unusedSimpArgs false
section
open Go.RowKit
open Go.Maps
/-- What Crash makes of the files, one by one. -/
theorem rD_crash (ks : List Int) (es es' : List REnt) (hl : es'.length = es.length) (h : ∀ (i : Nat) (e e' : REnt), es[i]? = some e → es'[i]? = some e' → e'.s = e.s ∧ e'.fl = crF ks i e.fl) : rD es' = crD ks es.length (rD es) := by
  show DataW.map _ = DataW.map (crE ks es.length (es.map REnt.ent))
  congr 1
  apply List.ext_getElem?
  intro i
  rw [crE_get, List.getElem?_map, List.getElem?_map]
  by_cases hi : i < es.length
  · rw [List.getElem?_eq_getElem hi, List.getElem?_eq_getElem (by omega)]
    obtain ⟨h1, h2⟩ := h i _ _ (List.getElem?_eq_getElem hi) (List.getElem?_eq_getElem (by omega))
    simp only [Option.map_some, if_pos hi]
    show some (Lit.string es'[i].s, DataW.held es'[i].fl) = some (Lit.string es[i].s, DataW.held (crF ks i es[i].fl))
    rw [h1, h2]
  · rw [List.getElem?_eq_none (by omega), List.getElem?_eq_none (by omega)]
    rfl
section
variable {w : World} {rp : Nat} {t : St} {O : Nat → Prop} {a : Option Addr} {c : Nat} {es : List REnt}
/-- Another row of files is laid, whose bytes are new since w. -/
theorem RdC.renew (h : RdC w rp t O a c es) {w1 : World} (hb : Below w.heap.size w w1) {a' : Option Addr} {c' : Nat} {es' : List REnt} {D' : FS} (hown : OwnFl w1 w.heap.size (.slice a' es'.length c') es') (hD : D' = rD es') (hG : Good D' t.room)
    (hby : ∀ e ∈ es', Sl w1 w1.heap.size e.a e.bs.length e.c e.bs ∧ (0 < e.bs.length → ∀ b o, e.a = some ⟨b, o, none⟩ → w.heap.size ≤ b ∧ (Value.slice a' es'.length c').ownBlock ≠ some b)) :
    RdC (w1.setCell ⟨rp, 1, none⟩ (.slice a' es'.length c')) rp ⟨D', t.room, t.fuse, t.fails⟩ (fun k => O k ∨ (w.heap.size ≤ k ∧ k < w1.heap.size)) a' c' es' ∧ But O w (w1.setCell ⟨rp, 1, none⟩ (.slice a' es'.length c')) := by
  have h1 := h.below hb
  have hrl := h.lt rp h.rpO
  have hs := heap_setCell_same w1 rp 1 _ _ (.slice a' es'.length c') h1.cells
  have hoth : ∀ k, k ≠ rp → (w1.setCell ⟨rp, 1, none⟩ (.slice a' es'.length c')).heap[k]? = w1.heap[k]? := fun k hk => Below.heap_setCell w1 ⟨rp, 1, none⟩ _ k hk
  have hz : (w1.setCell ⟨rp, 1, none⟩ (.slice a' es'.length c')).heap.size = w1.heap.size := by simp [World.setCell]
  have hob : ∀ g, (Value.slice a' es'.length c').ownBlock = some g → w.heap.size ≤ g ∧ g < w1.heap.size := fun g hg => hown.at_base hg
  refine ⟨⟨hs, ⟨hown.1, ?_⟩, hD, hG, fun e he => ?_, .inl h.rpO, fun g hg => ⟨.inr (hob g hg), by have := (hob g hg).1; omega⟩, fun k hk => ?_, h.fuse_, h.fails_⟩, ?_⟩
  · rcases hown.2 with h2 | ⟨g, cap, cur, e, h2, h3, h4⟩
    · exact .inl h2
    · exact .inr ⟨g, cap, cur, e, Nat.zero_le _, (hoth g (by omega)).trans h3, h4⟩
  · obtain ⟨hsl, hn⟩ := hby e he
    refine ⟨hsl.same_ (by omega) (fun hp b o e' => hoth b (by have := (hn hp b o e').1; omega)), fun hp b o e' => ⟨.inr ⟨(hn hp b o e').1, ?_⟩, by have := (hn hp b o e').1; omega, (hn hp b o e').2⟩⟩
    obtain ⟨b', o', e2, hlt, _⟩ := hsl.at_ hp
    rw [e'] at e2
    injection e2 with e2
    injection e2 with e2
    omega
  · rcases hk with hk | hk
    · have := h1.lt k hk; omega
    · omega
  · exact (But.of_below (O := O) hb).setCell (p := ⟨rp, 1, none⟩) (.inl h.rpO) _
end
theorem good_crD {D : FS} {room : Nat} (h : Good D room) (ks : List Int) : ∀ k, k ≤ (strKeys D).length → Good (crD ks k D) room
  | 0, _ => by rw [crD_zero]; exact h
  | k + 1, hk => by
    obtain ⟨s, hs⟩ : ∃ s, (strKeys D)[k]? = some s := ⟨_, List.getElem?_eq_getElem (by omega)⟩
    obtain ⟨f, hf⟩ : ∃ f, fat D s = some f := Option.isSome_iff_exists.1 ((names_mem h s).1 (List.mem_of_getElem? hs))
    have hfk : fat (crD ks k D) s = some f := by rw [fat_crD ks k h hs hf, if_neg (by omega)]
    rw [crD_succ ks k h hs hf]
    exact good_cr (good_crD h ks k (by omega)) hfk ks k
end
section
open Go.RowKit
open Go.Maps
attribute [local go_sem] Oper.semAt_some

/-- 'append(v, x...)' of files, as wp_append_files; where what is owned lies now. -/
theorem wp_append_files_at {w : World} {o : Oper} {a : Act} {K : Act → World → Prop} {Q : Exit → Act → World → Prop} (s x : Operand)
    (ho : o.op = .call { callee := .builtin .append, args := #[s, x], argTypes := #[55, 55] })
    (base : Nat) (v : Value) (es : List REnt) (hs : a.eval s = v) (hown : OwnFl w base v es)
    (A : Addr) (m c : Nat) (es2 : List REnt) (hx : a.eval x = .slice (some A) m c) (hc : RFs w (some A) m c es2)
    (hbytes : es.length + m ≤ 1000) (hbase : base ≤ w.heap.size)
    (h : ∀ v' w', OwnFl w' base v' (es ++ es2) → w.grownBy w' v.ownBlock → (v'.ownBlock = v.ownBlock ∨ v'.ownBlock = some w.heap.size) → K (a.put o.dst v') w') :
    o.wp Tryz.prog a w K Q := by
  obtain ⟨i, hi, hz0, hz1, hz2⟩ := info_parts info_file
  have hl2 := hc.len
  have hfin : ∀ v' w', w'.ownsRow base 70 3 v' (es.length + m) (rcells es ++ rcells es2) → OwnFl w' base v' (es ++ es2) := fun v' w' h1 => by
    unfold OwnFl
    rw [rcells_append, List.length_append, hl2]
    exact h1
  obtain ⟨g, off, e, _, hcc⟩ := hc.at_ (by simp)
  injection e with e
  subst e
  obtain ⟨v', w', hr, h1, h2, _, h4⟩ := run_append_own_at (P := Tryz.prog) w base 55 o.type 70 i _ 3 48 Tryz.underlying55 hi hz0 hz1 hz2 rfl (by decide) v es.length (rcells es) hown ⟨g, off, none⟩ m c (rcells es2) (by rw [rcells_len, hl2])
    (fun j u hj => by rw [Addr.add_mid]; exact hcc j u hj) (rcells_one es2) (by unfold maxLen; omega) (by omega) hbase
  unfold Oper.wp execOp
  simp only [ho, resolve, invoke, builtin, Sem.run_bind, Sem.run_pure, Result.andThen_ok, List.map_toArray, List.map_cons, List.map_nil, hs, hx, hr]
  exact h v' w' (hfin _ _ h1) h2 h4
theorem file_lit (w3 : World) (e : REnt) : RFs (w3.alloc (.cells #[.string ⟨e.s.toArray⟩, .slice e.a e.bs.length e.c, .int .i64 (e.l : Int)] 70)) (some ⟨w3.heap.size, 0, none⟩) 1 1 [e] :=
  ⟨rfl, Nat.le_refl _, by simp [maxLen], (fun h => by cases h), fun _ => ⟨w3.heap.size, 0, rfl, by simp, fun j u hj => by
    rw [Nat.zero_add, cell_of_row _ _ j _ _ _ (heap_alloc_new w3 _), ← hj]
    show (#[Value.string ⟨e.s.toArray⟩, .slice e.a e.bs.length e.c, .int .i64 (e.l : Int)])[j]? = (e.cells ++ [])[j]?
    simp⟩⟩
theorem OwnFl.below {w w' : World} {base : Nat} {v : Value} {es : List REnt} (h : OwnFl w base v es) (hb : Below w.heap.size w w') : OwnFl w' base v es :=
  World.ownsRow.kept h (grown_of_below hb none) (by cases hv : v.ownBlock <;> simp)
theorem RdC.ent_good {w : World} {rp : Nat} {t : St} {O : Nat → Prop} {a : Option Addr} {c : Nat} {es : List REnt} (h : RdC w rp t O a c es) {k : Nat} {e : REnt} (hk : es[k]? = some e) :
    e.l ≤ e.bs.length ∧ e.bs.length ≤ 1048576 := by
  have hp := List.pairwise_iff_getElem.1 h.once
  have hkl := (List.getElem?_eq_some_iff.1 hk).1
  have hke := (List.getElem?_eq_some_iff.1 hk).2
  have hx : ridx es e.s = k := ridx_hit es e.s k e (fun j x hj hx hn => by
    have hjl := (List.getElem?_eq_some_iff.1 hx).1
    have hje := (List.getElem?_eq_some_iff.1 hx).2
    have := before_ne (hp j k hjl hkl hj)
    rw [hje, hke] at this
    exact this hn) hk rfl
  have hf : fat t.D e.s = some e.fl := by rw [h.D_, ridx_fat, hx, hk]; rfl
  have h1 := h.good.at_ hf
  have h2 := h.good.tot_
  have h3 := h.good.room_
  exact ⟨h1.2.1, by have := h1.2.2.2; show e.fl.bs.length ≤ _; omega⟩
/-- What Crash has made of the first k files. -/
structure CrR (W wr : World) (ks : List Int) (es : List REnt) (k : Nat) (v : Value) (cs : List REnt) : Prop where
  own : OwnFl wr W.heap.size v cs
  len : cs.length = k
  is : ∀ (i : Nat) (e e' : REnt), es[i]? = some e → cs[i]? = some e' → e'.s = e.s ∧ e'.fl = crF ks i e.fl
  by_ : ∀ e ∈ cs, Sl wr wr.heap.size e.a e.bs.length e.c e.bs ∧ (0 < e.bs.length → ∀ b o, e.a = some ⟨b, o, none⟩ → W.heap.size ≤ b ∧ v.ownBlock ≠ some b)
  below : Below W.heap.size W wr
theorem CrR.start (W : World) (ks : List Int) (es : List REnt) : CrR W W ks es 0 (.slice none 0 0) [] :=
  ⟨World.ownsRow_nil _ _ _ _, rfl, fun _ _ _ _ h => by simp at h, fun e he => (by cases he), Below.refl _ _⟩
theorem CrR.next {W wr : World} {ks : List Int} {es : List REnt} {k : Nat} {v : Value} {cs : List REnt} (h : CrR W wr ks es k v cs) {w2 w3 : World} {v' : Value} (e : REnt) (he : es[k]? = some e) (xa : Option Addr) (xc : Nat)
    (hb : Below wr.heap.size wr w2) (hs : Sl w2 w2.heap.size xa (crM ks k e.fl) xc (e.bs.take (crM ks k e.fl))) (hn : ∀ b o, xa = some ⟨b, o, none⟩ → wr.heap.size ≤ b)
    (hown : OwnFl w3 W.heap.size v' (cs ++ [⟨e.s, xa, xc, e.bs.take (crM ks k e.fl), crM ks k e.fl⟩])) (hg : w2.grownBy w3 v.ownBlock) (hat : v'.ownBlock = v.ownBlock ∨ v'.ownBlock = some w2.heap.size) :
    CrR W w3 ks es (k + 1) v' (cs ++ [⟨e.s, xa, xc, e.bs.take (crM ks k e.fl), crM ks k e.fl⟩]) := by
  have hvl : ∀ b, v.ownBlock = some b → W.heap.size ≤ b ∧ b < wr.heap.size := fun b hb => h.own.at_base hb
  have hz := hb.size
  have hz3 := hg.size
  have hlen := hs.length
  refine ⟨hown, by simp [h.len], fun i x y hx hy => ?_, fun x hx => ?_, (h.below.trans (hb.mono h.below.size)).grown hg (Nat.le_trans h.below.size hz) (fun b hb' => (hvl b hb').1)⟩
  · by_cases hi : i < cs.length
    · rw [List.getElem?_append_left hi] at hy
      exact h.is i x y hx hy
    · rw [List.getElem?_append_right (by omega)] at hy
      have hi0 : i - cs.length = 0 := by
        have := (List.getElem?_eq_some_iff.1 hy).1
        simp at this
        omega
      rw [hi0] at hy
      have hik : i = k := by have := h.len; omega
      subst hik
      rw [he] at hx
      injection hx with hx
      subst hx
      have hy' : (⟨e.s, xa, xc, e.bs.take (crM ks i e.fl), crM ks i e.fl⟩ : REnt) = y := by simpa using hy
      subst hy'
      exact ⟨rfl, rfl⟩
  · have hv' : ∀ b, (v.ownBlock ≠ some b) → b < w2.heap.size → v'.ownBlock ≠ some b := fun b h1 h2 h3 => by
      rcases hat with h4 | h4
      · exact h1 (by rw [← h4]; exact h3)
      · rw [h4] at h3
        injection h3 with h3
        omega
    rcases List.mem_append.1 hx with hx | hx
    · obtain ⟨h1, h2⟩ := h.by_ x hx
      have hin : ∀ b o, 0 < x.bs.length → x.a = some ⟨b, o, none⟩ → b < wr.heap.size := fun b o hp e' => by
        obtain ⟨b', o', e2, hlt, _⟩ := h1.at_ hp
        rw [e'] at e2; injection e2 with e2; injection e2 with e2; omega
      refine ⟨h1.same_ (by omega) (fun hp b o e' => (hg.block b (by have := hin b o hp e'; omega) (fun e2 => (h2 hp b o e').2 e2.symm)).trans (hb.block b (hin b o hp e'))), fun hp b o e' => ⟨(h2 hp b o e').1, hv' b (h2 hp b o e').2 (by have := hin b o hp e'; omega)⟩⟩
    · have hx' : x = ⟨e.s, xa, xc, e.bs.take (crM ks k e.fl), crM ks k e.fl⟩ := by simpa using hx
      subst hx'
      simp only
      rw [hlen]
      have hin : ∀ b o, 0 < crM ks k e.fl → xa = some ⟨b, o, none⟩ → b < w2.heap.size := fun b o hp e' => by
        obtain ⟨b', o', e2, hlt, _⟩ := hs.at_ hp
        rw [e'] at e2; injection e2 with e2; injection e2 with e2; omega
      have hvn : ∀ b o, xa = some ⟨b, o, none⟩ → v.ownBlock ≠ some b := fun b o e' e2 => by have := (hvl b e2).2; have := hn b o e'; omega
      exact ⟨hs.same_ (by omega) (fun hp b o e' => hg.block b (hin b o hp e') (fun e2 => hvn b o e' e2.symm)), fun hp b o e' => ⟨Nat.le_trans h.below.size (hn b o e'), hv' b (hvn b o e') (hin b o hp e')⟩⟩
end
section
open Go.RowKit
open Go.Maps
attribute [local go_sem] Oper.semAt_some

section
variable {w : World} {rp : Nat} {t : St} {O : Nat → Prop} {a : Option Addr} {c : Nat} {es : List REnt}
set_option linter.unusedSimpArgs false in
set_option maxRecDepth 100000 in
set_option maxHeartbeats 6400000 in
theorem rcrash_any (h : RdC w rp t O a c es) (ks : List Int) (ka : Option Addr) (n kc : Nat) (hr : Row w w.heap.size ka n kc 1 (intsC ks)) (hn : ks.length = n) (hfar : 0 < n → ∀ k o, ka = some ⟨k, o, none⟩ → ¬ O k) :
    Calls Tryz.prog 36 #[.pointer (some ⟨rp, 0, none⟩), .slice ka n kc] w fun e w' => e = .returned (.tuple #[]) ∧ RMv w rp O (t.crash ks) w' := by
  have c1 := h.cell.2.1
  have hcap := h.len_
  have hrl := h.lt rp h.rpO
  have HH := Lib.hid h
  have HR := Lib.hid (And.intro hr hfar)
  clear h hr hfar
  obtain ⟨L, hL⟩ : ∃ L, L = es.length := ⟨_, rfl⟩
  rw [← hL] at c1 hcap
  have HL := Lib.hid hL
  have C1 := Lib.hid c1
  clear hL c1
  go_enter Tryz.func36, Tryz.ntmps36
  go_wp2_with fail
  go_loopw [4, 5] (fun v i wr => ∃ (k : Nat) (cs : List REnt), k ≤ L ∧ i = .int .i64 (k : Int) ∧ CrR w wr ks es k v cs) (fun _ i _ => L - (intOf i).toNat)
  case atStart => exact ⟨0, [], Nat.zero_le _, rfl, CrR.start _ _ _⟩
  case round =>
    obtain ⟨k, cs, hk, rfl, hc⟩ := hrel
    have CR := Lib.hid hc
    obtain ⟨va, vc, hv⟩ := hc.own.form
    rw [hc.len] at hv
    subst hv
    have k1 := (hc.below.cell (p := ⟨rp, 1, none⟩) hrl).trans C1.out
    clear hc
    by_cases hlt : k < L
    · have hke : k < es.length := by have := HL.out; omega
      obtain ⟨g, hg, _, _, hgl, _, _, hcs⟩ := HH.out.at_ (by omega)
      subst hg
      obtain ⟨e, he⟩ : ∃ e, e = es[k] := ⟨_, rfl⟩
      have hek : es[k]? = some e := by rw [he]; exact List.getElem?_eq_getElem hke
      obtain ⟨q0, q1, q2⟩ := hcs k e hek
      have x0 := (CR.out.below.cell (p := ⟨g, k * 3, none⟩) hgl).trans q0
      have x1 := (CR.out.below.cell (p := ⟨g, k * 3 + 1, none⟩) hgl).trans q1
      have x2 := (CR.out.below.cell (p := ⟨g, k * 3 + 2, none⟩) hgl).trans q2
      have hbe := HH.out.bytes e (List.mem_of_getElem? hek)
      have hG := HH.out.ent_good hek
      obtain ⟨m, hm⟩ : ∃ m, m = crM ks k e.fl := ⟨_, rfl⟩
      have hml := crM_le ks k (f := e.fl) hG.1
      rw [← hm] at hml
      have HM := Lib.hid (And.intro hm hek)
      have HE := Lib.hid hbe
      have hce := hbe.1.le
      have hl1 : e.l ≤ e.bs.length := hG.1
      have hl2 : e.bs.length ≤ 1048576 := hG.2
      have hml1 : e.l ≤ m := hml.1
      have hml2 : m ≤ e.bs.length := hml.2
      have FX : Hid (∀ x, Below (wr.alloc (.cells #[.string ⟨e.s.toArray⟩, .slice e.a e.bs.length e.c, .int .i64 (e.l : Int)] 70)).heap.size (wr.alloc (.cells #[.string ⟨e.s.toArray⟩, .slice e.a e.bs.length e.c, .int .i64 (e.l : Int)] 70)) x → x.cell? ⟨wr.heap.size, 0, none⟩ = some (.string ⟨e.s.toArray⟩) ∧ x.cell? ⟨wr.heap.size, 1, none⟩ = some (.slice e.a e.bs.length e.c) ∧ x.cell? ⟨wr.heap.size, 2, none⟩ = some (.int .i64 (e.l : Int))) := fun x hx => by
        have hb := (hx.block wr.heap.size (by simp)).trans (heap_alloc_new wr (.cells #[.string ⟨e.s.toArray⟩, .slice e.a e.bs.length e.c, .int .i64 (e.l : Int)] 70))
        exact ⟨(cell_of_row _ _ 0 _ _ _ hb).trans rfl, (cell_of_row _ _ 1 _ _ _ hb).trans rfl, (cell_of_row _ _ 2 _ _ _ hb).trans rfl⟩
      have cc : ∀ x, (Instr.slice 32 (.slice e.a e.bs.length e.c) none (some (.int .i64 (m : Int))) none).run Tryz.prog x = .ok (.slice e.a m e.c) x := run_cut_to (P := Tryz.prog) 32 5 Tryz.underlying32 info_u8 e.a e.bs.length e.c m (by omega)
      have hsub : IntKind.i64.wrap ((e.bs.length : Int) - (e.l : Int)) = (e.bs.length : Int) - (e.l : Int) := by rw [IntKind.wrap_i64]; omega
      clear hbe hG hcs q0 q1 q2 he hm hml hek
      by_cases hkn : k < n
      · have hrow := (HR.out.1.below CR.out.below (Nat.le_refl _))
        obtain ⟨b, o, rfl, hbw, hcc⟩ := hrow.at_ (by omega)
        have y0 := hcc k (by omega)
        simp only [intsC] at y0
        have HY := Lib.hid (fun (x : World) (hx : Below wr.heap.size wr x) => (hx.cell (p := ⟨b, o + k, none⟩) (block_lt_of_cell y0)).trans y0)
        have hq : m = e.l + (min (max (ks.getD k 0) 0) ((e.bs.length : Int) - (e.l : Int))).toNat := by
          rw [HM.out.1]
          unfold crM keptV
          rw [if_pos (by omega)]
        have m1 := fun (x : World) => max2_any (ks.getD k 0) 0 x
        have m2 := fun (x : World) => min2i_any (max (ks.getD k 0) 0) ((e.bs.length : Int) - (e.l : Int)) x
        have hadd : IntKind.i64.wrap ((e.l : Int) + min (max (ks.getD k 0) 0) ((e.bs.length : Int) - (e.l : Int))) = (m : Int) := by rw [IntKind.wrap_i64]; omega
        have hF0 := FX.out _ (Below.drew (Below.refl _ _))
        have hY0 := HY.out _ (Below.drew ((Below.refl _ _).alloc (Nat.le_refl _) (.cells #[.string ⟨e.s.toArray⟩, .slice e.a e.bs.length e.c, .int .i64 (e.l : Int)] 70)))
        clear hcc hrow hq y0
        generalize ks.getD k 0 = kv at *
        go_wp2_with fail
        refine wp_region_held_drew (S := fun x => x.cell? ⟨b, o + k, none⟩ = some (.int .i64 kv) ∧ x.cell? ⟨wr.heap.size, 1, none⟩ = some (.slice e.a e.bs.length e.c) ∧ x.cell? ⟨wr.heap.size, 2, none⟩ = some (.int .i64 (e.l : Int))) (by kernel_rfl) ⟨hY0, hF0.2.1, hF0.2.2⟩ (fun hHeld => ?_)
        refine wpAnyH_take (i := 0) (v := ?_) rfl (by kernel_rfl) (by kernel_rfl) (by kernel_rfl) (fun _ _ _ h => h) (Or.inl ⟨by rfl, ?_⟩) (by assumption) ?_
        rotate_left
        · intro w hSw
          (try dsimp only at hSw)
          go_simp
          all_goals with_reducible rfl
        try simp only [Act.put, List.getElem_toArray, List.getElem_cons_succ, List.getElem_cons_zero, List.setIfInBounds_toArray, List.set_cons_zero, List.set_cons_succ]
        refine wpAnyH_take (i := 1) (v := ?_) rfl (by kernel_rfl) (by kernel_rfl) (by kernel_rfl) (fun _ _ _ h => h) (Or.inl ⟨by rfl, ?_⟩) (by assumption) ?_
        rotate_left
        · intro w hSw
          (try dsimp only at hSw)
          go_simp
          all_goals with_reducible rfl
        try simp only [Act.put, List.getElem_toArray, List.getElem_cons_succ, List.getElem_cons_zero, List.setIfInBounds_toArray, List.set_cons_zero, List.set_cons_succ]
        refine wpAnyH_take (i := 2) (v := ?_) rfl (by kernel_rfl) (by kernel_rfl) (by kernel_rfl) (fun _ _ _ h => h) (Or.inl ⟨by rfl, ?_⟩) (by assumption) ?_
        rotate_left
        · intro w hSw
          (try dsimp only at hSw)
          go_simp
          all_goals with_reducible rfl
        try simp only [Act.put, List.getElem_toArray, List.getElem_cons_succ, List.getElem_cons_zero, List.setIfInBounds_toArray, List.set_cons_zero, List.set_cons_succ]
        refine wpAnyH_take (i := 3) (v := ?_) rfl (by kernel_rfl) (by kernel_rfl) (by kernel_rfl) (fun _ _ _ h => h) (Or.inl ⟨by rfl, ?_⟩) (by assumption) ?_
        rotate_left
        · intro w hSw
          (try dsimp only at hSw)
          go_simp
          all_goals with_reducible rfl
        try simp only [Act.put, List.getElem_toArray, List.getElem_cons_succ, List.getElem_cons_zero, List.setIfInBounds_toArray, List.set_cons_zero, List.set_cons_succ]
        refine wpAnyH_take (i := 4) (v := ?_) rfl (by kernel_rfl) (by kernel_rfl) (by kernel_rfl) (fun _ _ _ h => h) (Or.inl ⟨by rfl, ?_⟩) (by assumption) ?_
        rotate_left
        · intro w hSw
          (try dsimp only at hSw)
          go_simp
          all_goals with_reducible rfl
        try simp only [Act.put, List.getElem_toArray, List.getElem_cons_succ, List.getElem_cons_zero, List.setIfInBounds_toArray, List.set_cons_zero, List.set_cons_succ]
        refine wpAnyH_take (i := 5) (v := ?_) rfl (by kernel_rfl) (by kernel_rfl) (by kernel_rfl) (fun _ _ _ h => h) (Or.inl ⟨by rfl, ?_⟩) (by assumption) ?_
        rotate_left
        · intro w hSw
          (try dsimp only at hSw)
          go_simp
          all_goals with_reducible rfl
        try simp only [Act.put, List.getElem_toArray, List.getElem_cons_succ, List.getElem_cons_zero, List.setIfInBounds_toArray, List.set_cons_zero, List.set_cons_succ]
        refine wpAnyH_take (i := 6) (v := ?_) rfl (by kernel_rfl) (by kernel_rfl) (by kernel_rfl) (fun _ _ _ h => h) (Or.inl ⟨by rfl, ?_⟩) (by assumption) ?_
        rotate_left
        · intro w hSw
          (try dsimp only at hSw)
          go_simp
          all_goals with_reducible rfl
        try simp only [Act.put, List.getElem_toArray, List.getElem_cons_succ, List.getElem_cons_zero, List.setIfInBounds_toArray, List.set_cons_zero, List.set_cons_succ]
        refine wpAnyH_take (i := 7) (v := ?_) rfl (by kernel_rfl) (by kernel_rfl) (by kernel_rfl) (fun _ _ _ h => h) (Or.inl ⟨by rfl, ?_⟩) (by assumption) ?_
        rotate_left
        · intro w hSw
          (try dsimp only at hSw)
          go_simp
          all_goals with_reducible rfl
        try simp only [Act.put, List.getElem_toArray, List.getElem_cons_succ, List.getElem_cons_zero, List.setIfInBounds_toArray, List.set_cons_zero, List.set_cons_succ]
        refine wpAnyH_take (i := 8) (v := ?_) rfl (by kernel_rfl) (by kernel_rfl) (by kernel_rfl) (fun _ _ _ h => h) (Or.inl ⟨by rfl, ?_⟩) (by assumption) ?_
        rotate_left
        · intro w hSw
          (try dsimp only at hSw)
          go_simp
          all_goals with_reducible rfl
        try simp only [Act.put, List.getElem_toArray, List.getElem_cons_succ, List.getElem_cons_zero, List.setIfInBounds_toArray, List.set_cons_zero, List.set_cons_succ]
        refine wpAnyH_take (i := 9) (v := ?_) rfl (by kernel_rfl) (by kernel_rfl) (by kernel_rfl) (fun _ _ _ h => h) (Or.inl ⟨by rfl, ?_⟩) (by assumption) ?_
        rotate_left
        · intro w hSw
          (try dsimp only at hSw)
          go_simp
          all_goals with_reducible rfl
        try simp only [Act.put, List.getElem_toArray, List.getElem_cons_succ, List.getElem_cons_zero, List.setIfInBounds_toArray, List.set_cons_zero, List.set_cons_succ]
        refine wpAnyH_take (i := 10) (v := ?_) rfl (by kernel_rfl) (by kernel_rfl) (by kernel_rfl) (fun _ _ _ h => h) (Or.inl ⟨by rfl, ?_⟩) (by assumption) ?_
        rotate_left
        · intro w hSw
          (try dsimp only at hSw)
          go_simp
          all_goals with_reducible rfl
        try simp only [Act.put, List.getElem_toArray, List.getElem_cons_succ, List.getElem_cons_zero, List.setIfInBounds_toArray, List.set_cons_zero, List.set_cons_succ]
        refine wpAnyH_take (i := 11) (v := ?_) rfl (by kernel_rfl) (by kernel_rfl) (by kernel_rfl) (fun _ _ _ h => h) (Or.inl ⟨by rfl, ?_⟩) (by assumption) ?_
        rotate_left
        · intro w hSw
          (try dsimp only at hSw)
          go_simp
          all_goals with_reducible rfl
        try simp only [Act.put, List.getElem_toArray, List.getElem_cons_succ, List.getElem_cons_zero, List.setIfInBounds_toArray, List.set_cons_zero, List.set_cons_succ]
        refine wpAnyH_take (i := 12) (v := ?_) rfl (by kernel_rfl) (by kernel_rfl) (by kernel_rfl) (fun _ _ _ h => h) (Or.inl ⟨by rfl, ?_⟩) (by assumption) ?_
        rotate_left
        · intro w hSw
          (try dsimp only at hSw)
          go_simp
          all_goals with_reducible rfl
        try simp only [Act.put, List.getElem_toArray, List.getElem_cons_succ, List.getElem_cons_zero, List.setIfInBounds_toArray, List.set_cons_zero, List.set_cons_succ]
        refine wpAnyH_done (by kernel_rfl) ?_ _
        clear hHeld x0 x1 x2
        go_wp2_with fail
        have hX : Below (wr.alloc (.cells #[.string ⟨e.s.toArray⟩, .slice e.a e.bs.length e.c, .int .i64 (e.l : Int)] 70)).heap.size (wr.alloc (.cells #[.string ⟨e.s.toArray⟩, .slice e.a e.bs.length e.c, .int .i64 (e.l : Int)] 70)) (wr.alloc (.cells #[.string ⟨e.s.toArray⟩, .slice e.a e.bs.length e.c, .int .i64 (e.l : Int)] 70)).drew.drew := Below.drew (Below.drew (Below.refl _ _))
        have fx := FX.out _ hX
        have hb1 : Below (wr.alloc (.cells #[.string ⟨e.s.toArray⟩, .slice e.a e.bs.length e.c, .int .i64 (e.l : Int)] 70)).heap.size (wr.alloc (.cells #[.string ⟨e.s.toArray⟩, .slice e.a e.bs.length e.c, .int .i64 (e.l : Int)] 70)) ((wr.alloc (.cells #[.string ⟨e.s.toArray⟩, .slice e.a e.bs.length e.c, .int .i64 (e.l : Int)] 70)).drew.drew.alloc (.cells #[] 5)) := hX.alloc hX.size _
        have hown1 : OwnB ((wr.alloc (.cells #[.string ⟨e.s.toArray⟩, .slice e.a e.bs.length e.c, .int .i64 (e.l : Int)] 70)).drew.drew.alloc (.cells #[] 5)) (wr.alloc (.cells #[.string ⟨e.s.toArray⟩, .slice e.a e.bs.length e.c, .int .i64 (e.l : Int)] 70)).heap.size 5 (.slice (some ⟨wr.heap.size + 1, 0, none⟩) 0 0) [] := by rw [show wr.heap.size + 1 = (wr.alloc (.cells #[.string ⟨e.s.toArray⟩, .slice e.a e.bs.length e.c, .int .i64 (e.l : Int)] 70)).heap.size from by simp]; exact OwnB.lit (w := (wr.alloc (.cells #[.string ⟨e.s.toArray⟩, .slice e.a e.bs.length e.c, .int .i64 (e.l : Int)] 70)).drew.drew) _ [] (Nat.le_refl _) (by decide)
        have f1 := FX.out _ hb1
        refine wp_region_held_drew (S := fun x => x.cell? ⟨wr.heap.size, 0, none⟩ = some (.string ⟨e.s.toArray⟩) ∧ x.cell? ⟨wr.heap.size, 1, none⟩ = some (.slice e.a e.bs.length e.c)) (by kernel_rfl) ⟨fx.1, fx.2.1⟩ (fun hHeld => ?_)
        refine wpAnyH_take (i := 0) (v := ?_) rfl (by kernel_rfl) (by kernel_rfl) (by kernel_rfl) (fun _ _ _ h => h) (Or.inl ⟨by rfl, ?_⟩) (by assumption) ?_
        rotate_left
        · intro w hSw
          (try dsimp only at hSw)
          go_simp
          all_goals with_reducible rfl
        try simp only [Act.put, List.getElem_toArray, List.getElem_cons_succ, List.getElem_cons_zero, List.setIfInBounds_toArray, List.set_cons_zero, List.set_cons_succ]
        refine wpAnyH_take (i := 1) (v := ?_) rfl (by kernel_rfl) (by kernel_rfl) (by kernel_rfl) (fun _ _ _ h => h) (Or.inl ⟨by rfl, ?_⟩) (by assumption) ?_
        rotate_left
        · intro w hSw
          (try dsimp only at hSw)
          go_simp
          all_goals with_reducible rfl
        try simp only [Act.put, List.getElem_toArray, List.getElem_cons_succ, List.getElem_cons_zero, List.setIfInBounds_toArray, List.set_cons_zero, List.set_cons_succ]
        refine wpAnyH_take (i := 2) (v := ?_) rfl (by kernel_rfl) (by kernel_rfl) (by kernel_rfl) (fun _ _ _ h => h) (Or.inl ⟨by rfl, ?_⟩) (by assumption) ?_
        rotate_left
        · intro w hSw
          (try dsimp only at hSw)
          go_simp
          all_goals with_reducible rfl
        try simp only [Act.put, List.getElem_toArray, List.getElem_cons_succ, List.getElem_cons_zero, List.setIfInBounds_toArray, List.set_cons_zero, List.set_cons_succ]
        refine wpAnyH_take (i := 4) (v := ?_) rfl (by kernel_rfl) (by kernel_rfl) (by kernel_rfl) (fun _ _ _ h => h) (Or.inl ⟨by rfl, ?_⟩) (by assumption) ?_
        rotate_left
        · intro w hSw
          (try dsimp only at hSw)
          go_simp
          all_goals with_reducible rfl
        try simp only [Act.put, List.getElem_toArray, List.getElem_cons_succ, List.getElem_cons_zero, List.setIfInBounds_toArray, List.set_cons_zero, List.set_cons_succ]
        refine wpAnyH_take (i := 5) (v := ?_) rfl (by kernel_rfl) (by kernel_rfl) (by kernel_rfl) (fun _ _ _ h => h) (Or.inl ⟨by rfl, ?_⟩) (by assumption) ?_
        rotate_left
        · intro w hSw
          (try dsimp only at hSw)
          go_simp
          all_goals with_reducible rfl
        try simp only [Act.put, List.getElem_toArray, List.getElem_cons_succ, List.getElem_cons_zero, List.setIfInBounds_toArray, List.set_cons_zero, List.set_cons_succ]
        refine wpAnyH_take (i := 6) (v := ?_) rfl (by kernel_rfl) (by kernel_rfl) (by kernel_rfl) (fun _ _ _ h => h) (Or.inl ⟨by rfl, ?_⟩) (by assumption) ?_
        rotate_left
        · intro w hSw
          (try dsimp only at hSw)
          go_simp
          all_goals with_reducible rfl
        try simp only [Act.put, List.getElem_toArray, List.getElem_cons_succ, List.getElem_cons_zero, List.setIfInBounds_toArray, List.set_cons_zero, List.set_cons_succ]
        refine wpAnyH_take (i := 7) (v := ?_) rfl (by kernel_rfl) (by kernel_rfl) (by kernel_rfl) (fun _ _ _ h => h) (Or.inl ⟨by rfl, ?_⟩) (by assumption) ?_
        rotate_left
        · intro w hSw
          (try dsimp only at hSw)
          go_simp
          all_goals with_reducible rfl
        try simp only [Act.put, List.getElem_toArray, List.getElem_cons_succ, List.getElem_cons_zero, List.setIfInBounds_toArray, List.set_cons_zero, List.set_cons_succ]
        refine wpAnyH_take (i := 9) (v := ?_) rfl (by kernel_rfl) (by kernel_rfl) (by kernel_rfl) (fun _ _ _ h => h) (Or.inl ⟨by rfl, ?_⟩) (by assumption) ?_
        rotate_left
        · intro w hSw
          (try dsimp only at hSw)
          go_simp
          all_goals with_reducible rfl
        try simp only [Act.put, List.getElem_toArray, List.getElem_cons_succ, List.getElem_cons_zero, List.setIfInBounds_toArray, List.set_cons_zero, List.set_cons_succ]
        refine wpAnyH_ready (rs := [3]) (by kernel_rfl) (by simp) ?_
        refine AllReadyH.cons rfl (fun K hK => ?_) AllReadyH.nil
        rw [if_pos (by rfl)]
        go_simp
        refine hK.out _ _ ?_ (fun hHeld => ?_)
        · exact ⟨f1.1, f1.2.1⟩
        clear hK K
        try simp only [Act.put, List.getElem_toArray, List.getElem_cons_succ, List.getElem_cons_zero, List.setIfInBounds_toArray, List.set_cons_zero, List.set_cons_succ]
        refine wpAnyH_ready (rs := [8]) (by kernel_rfl) (by simp) ?_
        refine AllReadyH.cons rfl (fun K hK => ?_) AllReadyH.nil
        rw [if_pos (by rfl)]
        refine wp_append_sl (.tmp 48) (.tmp 52) _ rfl (wr.alloc (.cells #[.string ⟨e.s.toArray⟩, .slice e.a e.bs.length e.c, .int .i64 (e.l : Int)] 70)).heap.size _ Tryz.underlying32 info_u8 (.slice (some ⟨wr.heap.size + 1, 0, none⟩) 0 0) [] rfl hown1 _ e.a m e.c (e.bs.take m) rfl (((HE.out.1.below CR.out.below (Nat.le_refl _)).more CR.out.below.size).below (((Below.refl _ _).alloc (Nat.le_refl _) _).trans (hb1.mono (by simp))) (Nat.le_refl _) |>.take hml2) (by simp; omega) (by simp) ?_
        intro v1 w3 ho1 hg1 hat1
        rw [List.nil_append] at ho1
        have hb3 : Below (wr.alloc (.cells #[.string ⟨e.s.toArray⟩, .slice e.a e.bs.length e.c, .int .i64 (e.l : Int)] 70)).heap.size (wr.alloc (.cells #[.string ⟨e.s.toArray⟩, .slice e.a e.bs.length e.c, .int .i64 (e.l : Int)] 70)) w3 := hb1.grown hg1 hb1.size (fun k hk => by simp [Value.ownBlock] at hk; simp; omega)
        have f3 := FX.out _ hb3
        refine hK.out _ _ ?_ (fun hHeld => ?_)
        · exact ⟨f3.1, f3.2.1⟩
        clear hK K
        try simp only [Act.put, List.getElem_toArray, List.getElem_cons_succ, List.getElem_cons_zero, List.setIfInBounds_toArray, List.set_cons_zero, List.set_cons_succ]
        obtain ⟨xa, xc, hv1, hs4, hbb⟩ := ho1.sl_base (fun c hc => HE.out.1.byte c (List.mem_of_mem_take hc))
        have htl : (e.bs.take m).length = m := by rw [List.length_take]; omega
        rw [htl] at hv1 hs4
        subst hv1
        refine wpAnyH_take (i := 10) (v := ?_) rfl (by kernel_rfl) (by kernel_rfl) (by kernel_rfl) (fun _ _ _ h => h) (Or.inl ⟨by rfl, ?_⟩) (by assumption) ?_
        rotate_left
        · intro w hSw
          (try dsimp only at hSw)
          go_simp
          all_goals with_reducible rfl
        try simp only [Act.put, List.getElem_toArray, List.getElem_cons_succ, List.getElem_cons_zero, List.setIfInBounds_toArray, List.set_cons_zero, List.set_cons_succ]
        refine wpAnyH_ready (rs := [11]) (by kernel_rfl) (by simp) ?_
        refine AllReadyH.cons rfl (fun K hK => ?_) AllReadyH.nil
        rw [if_pos (by rfl)]
        go_simp
        have hb4 := hb3.alloc hb3.size (.cells #[.string ⟨e.s.toArray⟩, .slice xa m xc, .int .i64 (m : Int)] 70)
        have f4 := FX.out _ hb4
        refine hK.out _ _ ?_ (fun hHeld => ?_)
        · exact ⟨f4.1, f4.2.1⟩
        clear hK K
        try simp only [Act.put, List.getElem_toArray, List.getElem_cons_succ, List.getElem_cons_zero, List.setIfInBounds_toArray, List.set_cons_zero, List.set_cons_succ]
        have hbw : Below wr.heap.size wr (w3.alloc (.cells #[.string ⟨e.s.toArray⟩, .slice xa m xc, .int .i64 (m : Int)] 70)) := ((Below.refl _ _).alloc (Nat.le_refl _) (.cells #[.string ⟨e.s.toArray⟩, .slice e.a e.bs.length e.c, .int .i64 (e.l : Int)] 70)).trans (hb4.mono (by simp))
        have hlit := file_lit w3 ⟨e.s, xa, xc, e.bs.take m, m⟩
        change RFs (w3.alloc (.cells #[.string ⟨e.s.toArray⟩, .slice xa (e.bs.take m).length xc, .int .i64 (m : Int)] 70)) _ _ _ _ at hlit
        rw [htl] at hlit
        refine wpAnyH_ready (rs := [12]) (by kernel_rfl) (by simp) ?_
        refine AllReadyH.cons rfl (fun K hK => ?_) AllReadyH.nil
        rw [if_pos (by rfl)]
        refine wp_append_files_at (.tmp 45) (.tmp 56) rfl w.heap.size (.slice va k vc) cs rfl (CR.out.own.below hbw) ⟨w3.heap.size, 0, none⟩ 1 1 [⟨e.s, xa, xc, e.bs.take m, m⟩] rfl hlit (by have := CR.out.len; omega) (Nat.le_trans CR.out.below.size hbw.size) ?_
        intro v5 w5 ho5 hg5 hat5
        have hvne : some wr.heap.size ≠ (Value.slice va k vc).ownBlock := fun e2 => by have := (CR.out.own.at_base e2.symm).2; omega
        refine hK.out _ _ ?_ (fun hHeld => ?_)
        · exact ⟨hg5.cell f4.1 hvne, hg5.cell f4.2.1 hvne⟩
        clear hK K
        try simp only [Act.put, List.getElem_toArray, List.getElem_cons_succ, List.getElem_cons_zero, List.setIfInBounds_toArray, List.set_cons_zero, List.set_cons_succ]
        refine wpAnyH_take (i := 13) (v := ?_) rfl (by kernel_rfl) (by kernel_rfl) (by kernel_rfl) (fun _ _ _ h => h) (Or.inl ⟨by rfl, ?_⟩) (by assumption) ?_
        rotate_left
        · intro w hSw
          (try dsimp only at hSw)
          go_simp
          all_goals with_reducible rfl
        try simp only [Act.put, List.getElem_toArray, List.getElem_cons_succ, List.getElem_cons_zero, List.setIfInBounds_toArray, List.set_cons_zero, List.set_cons_succ]
        refine wpAnyH_done (by kernel_rfl) ?_ _
        have HN : Hid (CrR w w5 ks es (k + 1) v5 (cs ++ [⟨e.s, xa, xc, e.bs.take m, m⟩])) := by
          obtain ⟨hm, hek⟩ := HM.out
          subst hm
          exact CR.out.next e hek xa xc hbw ((hs4.below ((Below.refl _ _).alloc (Nat.le_refl _) _) (Nat.le_refl _)).more (by simp)) (fun b' o' hb' => by have := hbb b' o' hb'; simp at this; omega) ho5 hg5 hat5
        clear hHeld ho5 hg5 hat5 hs4 hbb hb4 hb3 hb1 hX fx f1 f3 f4 hlit hbw hown1 ho1 hg1 hat1
        go_wp2
        go_roundw
        case rel => exact ⟨k + 1, _, by omega, by go_num, HN.out⟩
        case measure => simp [intOf]; omega
      · have hq : m = e.l := by
          rw [HM.out.1]
          unfold crM keptV
          rw [if_neg (by omega)]
          simp
        have hadd : IntKind.i64.wrap (e.l : Int) = (m : Int) := by rw [IntKind.wrap_i64]; omega
        have hadd0 : IntKind.i64.wrap ((e.l : Int) + 0) = (m : Int) := by rw [IntKind.wrap_i64]; omega
        have hF0 := FX.out _ (Below.refl _ _)
        obtain ⟨z0, z1, z2⟩ := hF0
        clear hq
        go_wp2_with fail
        have hX : Below (wr.alloc (.cells #[.string ⟨e.s.toArray⟩, .slice e.a e.bs.length e.c, .int .i64 (e.l : Int)] 70)).heap.size (wr.alloc (.cells #[.string ⟨e.s.toArray⟩, .slice e.a e.bs.length e.c, .int .i64 (e.l : Int)] 70)) (wr.alloc (.cells #[.string ⟨e.s.toArray⟩, .slice e.a e.bs.length e.c, .int .i64 (e.l : Int)] 70)).drew := Below.drew (Below.refl _ _)
        have fx := FX.out _ hX
        have hb1 : Below (wr.alloc (.cells #[.string ⟨e.s.toArray⟩, .slice e.a e.bs.length e.c, .int .i64 (e.l : Int)] 70)).heap.size (wr.alloc (.cells #[.string ⟨e.s.toArray⟩, .slice e.a e.bs.length e.c, .int .i64 (e.l : Int)] 70)) ((wr.alloc (.cells #[.string ⟨e.s.toArray⟩, .slice e.a e.bs.length e.c, .int .i64 (e.l : Int)] 70)).drew.alloc (.cells #[] 5)) := hX.alloc hX.size _
        have hown1 : OwnB ((wr.alloc (.cells #[.string ⟨e.s.toArray⟩, .slice e.a e.bs.length e.c, .int .i64 (e.l : Int)] 70)).drew.alloc (.cells #[] 5)) (wr.alloc (.cells #[.string ⟨e.s.toArray⟩, .slice e.a e.bs.length e.c, .int .i64 (e.l : Int)] 70)).heap.size 5 (.slice (some ⟨wr.heap.size + 1, 0, none⟩) 0 0) [] := by rw [show wr.heap.size + 1 = (wr.alloc (.cells #[.string ⟨e.s.toArray⟩, .slice e.a e.bs.length e.c, .int .i64 (e.l : Int)] 70)).heap.size from by simp]; exact OwnB.lit (w := (wr.alloc (.cells #[.string ⟨e.s.toArray⟩, .slice e.a e.bs.length e.c, .int .i64 (e.l : Int)] 70)).drew) _ [] (Nat.le_refl _) (by decide)
        have f1 := FX.out _ hb1
        refine wp_region_held_drew (S := fun x => x.cell? ⟨wr.heap.size, 0, none⟩ = some (.string ⟨e.s.toArray⟩) ∧ x.cell? ⟨wr.heap.size, 1, none⟩ = some (.slice e.a e.bs.length e.c)) (by kernel_rfl) ⟨fx.1, fx.2.1⟩ (fun hHeld => ?_)
        refine wpAnyH_take (i := 0) (v := ?_) rfl (by kernel_rfl) (by kernel_rfl) (by kernel_rfl) (fun _ _ _ h => h) (Or.inl ⟨by rfl, ?_⟩) (by assumption) ?_
        rotate_left
        · intro w hSw
          (try dsimp only at hSw)
          go_simp
          all_goals with_reducible rfl
        try simp only [Act.put, List.getElem_toArray, List.getElem_cons_succ, List.getElem_cons_zero, List.setIfInBounds_toArray, List.set_cons_zero, List.set_cons_succ]
        refine wpAnyH_take (i := 1) (v := ?_) rfl (by kernel_rfl) (by kernel_rfl) (by kernel_rfl) (fun _ _ _ h => h) (Or.inl ⟨by rfl, ?_⟩) (by assumption) ?_
        rotate_left
        · intro w hSw
          (try dsimp only at hSw)
          go_simp
          all_goals with_reducible rfl
        try simp only [Act.put, List.getElem_toArray, List.getElem_cons_succ, List.getElem_cons_zero, List.setIfInBounds_toArray, List.set_cons_zero, List.set_cons_succ]
        refine wpAnyH_take (i := 2) (v := ?_) rfl (by kernel_rfl) (by kernel_rfl) (by kernel_rfl) (fun _ _ _ h => h) (Or.inl ⟨by rfl, ?_⟩) (by assumption) ?_
        rotate_left
        · intro w hSw
          (try dsimp only at hSw)
          go_simp
          all_goals with_reducible rfl
        try simp only [Act.put, List.getElem_toArray, List.getElem_cons_succ, List.getElem_cons_zero, List.setIfInBounds_toArray, List.set_cons_zero, List.set_cons_succ]
        refine wpAnyH_take (i := 4) (v := ?_) rfl (by kernel_rfl) (by kernel_rfl) (by kernel_rfl) (fun _ _ _ h => h) (Or.inl ⟨by rfl, ?_⟩) (by assumption) ?_
        rotate_left
        · intro w hSw
          (try dsimp only at hSw)
          go_simp
          all_goals with_reducible rfl
        try simp only [Act.put, List.getElem_toArray, List.getElem_cons_succ, List.getElem_cons_zero, List.setIfInBounds_toArray, List.set_cons_zero, List.set_cons_succ]
        refine wpAnyH_take (i := 5) (v := ?_) rfl (by kernel_rfl) (by kernel_rfl) (by kernel_rfl) (fun _ _ _ h => h) (Or.inl ⟨by rfl, ?_⟩) (by assumption) ?_
        rotate_left
        · intro w hSw
          (try dsimp only at hSw)
          go_simp
          all_goals with_reducible rfl
        try simp only [Act.put, List.getElem_toArray, List.getElem_cons_succ, List.getElem_cons_zero, List.setIfInBounds_toArray, List.set_cons_zero, List.set_cons_succ]
        refine wpAnyH_take (i := 6) (v := ?_) rfl (by kernel_rfl) (by kernel_rfl) (by kernel_rfl) (fun _ _ _ h => h) (Or.inl ⟨by rfl, ?_⟩) (by assumption) ?_
        rotate_left
        · intro w hSw
          (try dsimp only at hSw)
          go_simp
          all_goals with_reducible rfl
        try simp only [Act.put, List.getElem_toArray, List.getElem_cons_succ, List.getElem_cons_zero, List.setIfInBounds_toArray, List.set_cons_zero, List.set_cons_succ]
        refine wpAnyH_take (i := 7) (v := ?_) rfl (by kernel_rfl) (by kernel_rfl) (by kernel_rfl) (fun _ _ _ h => h) (Or.inl ⟨by rfl, ?_⟩) (by assumption) ?_
        rotate_left
        · intro w hSw
          (try dsimp only at hSw)
          go_simp
          all_goals with_reducible rfl
        try simp only [Act.put, List.getElem_toArray, List.getElem_cons_succ, List.getElem_cons_zero, List.setIfInBounds_toArray, List.set_cons_zero, List.set_cons_succ]
        refine wpAnyH_take (i := 9) (v := ?_) rfl (by kernel_rfl) (by kernel_rfl) (by kernel_rfl) (fun _ _ _ h => h) (Or.inl ⟨by rfl, ?_⟩) (by assumption) ?_
        rotate_left
        · intro w hSw
          (try dsimp only at hSw)
          go_simp
          all_goals with_reducible rfl
        try simp only [Act.put, List.getElem_toArray, List.getElem_cons_succ, List.getElem_cons_zero, List.setIfInBounds_toArray, List.set_cons_zero, List.set_cons_succ]
        refine wpAnyH_ready (rs := [3]) (by kernel_rfl) (by simp) ?_
        refine AllReadyH.cons rfl (fun K hK => ?_) AllReadyH.nil
        rw [if_pos (by rfl)]
        go_simp
        refine hK.out _ _ ?_ (fun hHeld => ?_)
        · exact ⟨f1.1, f1.2.1⟩
        clear hK K
        try simp only [Act.put, List.getElem_toArray, List.getElem_cons_succ, List.getElem_cons_zero, List.setIfInBounds_toArray, List.set_cons_zero, List.set_cons_succ]
        refine wpAnyH_ready (rs := [8]) (by kernel_rfl) (by simp) ?_
        refine AllReadyH.cons rfl (fun K hK => ?_) AllReadyH.nil
        rw [if_pos (by rfl)]
        refine wp_append_sl (.tmp 48) (.tmp 52) _ rfl (wr.alloc (.cells #[.string ⟨e.s.toArray⟩, .slice e.a e.bs.length e.c, .int .i64 (e.l : Int)] 70)).heap.size _ Tryz.underlying32 info_u8 (.slice (some ⟨wr.heap.size + 1, 0, none⟩) 0 0) [] rfl hown1 _ e.a m e.c (e.bs.take m) rfl (((HE.out.1.below CR.out.below (Nat.le_refl _)).more CR.out.below.size).below (((Below.refl _ _).alloc (Nat.le_refl _) _).trans (hb1.mono (by simp))) (Nat.le_refl _) |>.take hml2) (by simp; omega) (by simp) ?_
        intro v1 w3 ho1 hg1 hat1
        rw [List.nil_append] at ho1
        have hb3 : Below (wr.alloc (.cells #[.string ⟨e.s.toArray⟩, .slice e.a e.bs.length e.c, .int .i64 (e.l : Int)] 70)).heap.size (wr.alloc (.cells #[.string ⟨e.s.toArray⟩, .slice e.a e.bs.length e.c, .int .i64 (e.l : Int)] 70)) w3 := hb1.grown hg1 hb1.size (fun k hk => by simp [Value.ownBlock] at hk; simp; omega)
        have f3 := FX.out _ hb3
        refine hK.out _ _ ?_ (fun hHeld => ?_)
        · exact ⟨f3.1, f3.2.1⟩
        clear hK K
        try simp only [Act.put, List.getElem_toArray, List.getElem_cons_succ, List.getElem_cons_zero, List.setIfInBounds_toArray, List.set_cons_zero, List.set_cons_succ]
        obtain ⟨xa, xc, hv1, hs4, hbb⟩ := ho1.sl_base (fun c hc => HE.out.1.byte c (List.mem_of_mem_take hc))
        have htl : (e.bs.take m).length = m := by rw [List.length_take]; omega
        rw [htl] at hv1 hs4
        subst hv1
        refine wpAnyH_take (i := 10) (v := ?_) rfl (by kernel_rfl) (by kernel_rfl) (by kernel_rfl) (fun _ _ _ h => h) (Or.inl ⟨by rfl, ?_⟩) (by assumption) ?_
        rotate_left
        · intro w hSw
          (try dsimp only at hSw)
          go_simp
          all_goals with_reducible rfl
        try simp only [Act.put, List.getElem_toArray, List.getElem_cons_succ, List.getElem_cons_zero, List.setIfInBounds_toArray, List.set_cons_zero, List.set_cons_succ]
        refine wpAnyH_ready (rs := [11]) (by kernel_rfl) (by simp) ?_
        refine AllReadyH.cons rfl (fun K hK => ?_) AllReadyH.nil
        rw [if_pos (by rfl)]
        go_simp
        have hb4 := hb3.alloc hb3.size (.cells #[.string ⟨e.s.toArray⟩, .slice xa m xc, .int .i64 (m : Int)] 70)
        have f4 := FX.out _ hb4
        refine hK.out _ _ ?_ (fun hHeld => ?_)
        · exact ⟨f4.1, f4.2.1⟩
        clear hK K
        try simp only [Act.put, List.getElem_toArray, List.getElem_cons_succ, List.getElem_cons_zero, List.setIfInBounds_toArray, List.set_cons_zero, List.set_cons_succ]
        have hbw : Below wr.heap.size wr (w3.alloc (.cells #[.string ⟨e.s.toArray⟩, .slice xa m xc, .int .i64 (m : Int)] 70)) := ((Below.refl _ _).alloc (Nat.le_refl _) (.cells #[.string ⟨e.s.toArray⟩, .slice e.a e.bs.length e.c, .int .i64 (e.l : Int)] 70)).trans (hb4.mono (by simp))
        have hlit := file_lit w3 ⟨e.s, xa, xc, e.bs.take m, m⟩
        change RFs (w3.alloc (.cells #[.string ⟨e.s.toArray⟩, .slice xa (e.bs.take m).length xc, .int .i64 (m : Int)] 70)) _ _ _ _ at hlit
        rw [htl] at hlit
        refine wpAnyH_ready (rs := [12]) (by kernel_rfl) (by simp) ?_
        refine AllReadyH.cons rfl (fun K hK => ?_) AllReadyH.nil
        rw [if_pos (by rfl)]
        refine wp_append_files_at (.tmp 45) (.tmp 56) rfl w.heap.size (.slice va k vc) cs rfl (CR.out.own.below hbw) ⟨w3.heap.size, 0, none⟩ 1 1 [⟨e.s, xa, xc, e.bs.take m, m⟩] rfl hlit (by have := CR.out.len; omega) (Nat.le_trans CR.out.below.size hbw.size) ?_
        intro v5 w5 ho5 hg5 hat5
        have hvne : some wr.heap.size ≠ (Value.slice va k vc).ownBlock := fun e2 => by have := (CR.out.own.at_base e2.symm).2; omega
        refine hK.out _ _ ?_ (fun hHeld => ?_)
        · exact ⟨hg5.cell f4.1 hvne, hg5.cell f4.2.1 hvne⟩
        clear hK K
        try simp only [Act.put, List.getElem_toArray, List.getElem_cons_succ, List.getElem_cons_zero, List.setIfInBounds_toArray, List.set_cons_zero, List.set_cons_succ]
        refine wpAnyH_take (i := 13) (v := ?_) rfl (by kernel_rfl) (by kernel_rfl) (by kernel_rfl) (fun _ _ _ h => h) (Or.inl ⟨by rfl, ?_⟩) (by assumption) ?_
        rotate_left
        · intro w hSw
          (try dsimp only at hSw)
          go_simp
          all_goals with_reducible rfl
        try simp only [Act.put, List.getElem_toArray, List.getElem_cons_succ, List.getElem_cons_zero, List.setIfInBounds_toArray, List.set_cons_zero, List.set_cons_succ]
        refine wpAnyH_done (by kernel_rfl) ?_ _
        have HN : Hid (CrR w w5 ks es (k + 1) v5 (cs ++ [⟨e.s, xa, xc, e.bs.take m, m⟩])) := by
          obtain ⟨hm, hek⟩ := HM.out
          subst hm
          exact CR.out.next e hek xa xc hbw ((hs4.below ((Below.refl _ _).alloc (Nat.le_refl _) _) (Nat.le_refl _)).more (by simp)) (fun b' o' hb' => by have := hbb b' o' hb'; simp at this; omega) ho5 hg5 hat5
        clear hHeld ho5 hg5 hat5 hs4 hbb hb4 hb3 hb1 hX fx f1 f3 f4 hlit hbw hown1 ho1 hg1 hat1
        go_wp2
        go_roundw
        case rel => exact ⟨k + 1, _, by omega, by go_num, HN.out⟩
        case measure => simp [intOf]; omega
    · have hkL : k = L := by omega
      subst hkL
      obtain ⟨_, _, d2, d3, z⟩ := (HH.out.below CR.out.below).cell
      have z1 := z 1
      have z2 := z 2
      have z3 := z 3
      have hlen : cs.length = es.length := by have := CR.out.len; have := HL.out; omega
      have hD : crD ks es.length t.D = rD cs := by rw [HH.out.D_]; exact (rD_crash ks es cs hlen CR.out.is).symm
      have hG : Good (crD ks es.length t.D) t.room := good_crD HH.out.good ks es.length (by rw [HH.out.D_, rD_names]; simp)
      have X1 := HH.out.renew CR.out.below (a' := va) (c' := vc) (es' := cs) (D' := crD ks es.length t.D) (by rw [CR.out.len]; exact CR.out.own) hD hG (fun x hx => by rw [CR.out.len]; exact CR.out.by_ x hx)
      rw [CR.out.len] at X1
      have X2 := X1.1.set_ 2 (.int .i64 (-1)) (fuse' := -1) (fails' := t.fails) (by rw [CR.out.len]; rfl) (by decide) HH.out.fails_
      have X3 := X2.set_ 3 (.int .i64 0) (fuse' := -1) (fails' := 0) (by rw [CR.out.len]; rfl) (by decide) (by decide)
      have hsz : es.length = size t.D := by rw [HH.out.D_, rD_size]
      have XF : Hid (RMv w rp O (t.crash ks) (((wr.setCell ⟨rp, 1, none⟩ (.slice va k vc)).setCell ⟨rp, 2, none⟩ (.int .i64 (-1))).setCell ⟨rp, 3, none⟩ (.int .i64 0))) := by
        refine ⟨fun k' => O k' ∨ (w.heap.size ≤ k' ∧ k' < wr.heap.size), ⟨va, vc, cs, ?_⟩, ((X1.2.setCell (p := ⟨rp, 2, none⟩) (.inl HH.out.rpO) _).setCell (p := ⟨rp, 3, none⟩) (.inl HH.out.rpO) _), fun x hx => hx.imp id (fun h => h.1)⟩
        have h3 := X3
        unfold St.crash
        rw [← hsz]
        exact h3
      clear X1 X2 X3 hG hD hlen hsz z
      go_wp2
      go_end0
      exact ⟨rfl, XF.out⟩
end
theorem RK.crash {w0 w : World} {rp : Nat} {t : St} {O : Nat → Prop} (h : RK w0 w rp t O) (ks : List Int) (a : Option Addr) (n c : Nat) (hr : Row w w.heap.size a n c 1 (intsC ks)) (hn : ks.length = n) (hfar : 0 < n → ∀ k o, a = some ⟨k, o, none⟩ → ¬ O k) :
    Calls Tryz.prog 36 #[.pointer (some ⟨rp, 0, none⟩), .slice a n c] w fun e w' => e = .returned (.tuple #[]) ∧ Mr w0 w rp O (t.crash ks) w' := by
  obtain ⟨a0, c0, es, h1⟩ := h.is
  exact (rcrash_any h1 ks a n c hr hn hfar).mono fun _ _ hT => ⟨hT.1, h.mv hT.2⟩
end
end Go.Proofs.YtohiheohndmccaaGreat
