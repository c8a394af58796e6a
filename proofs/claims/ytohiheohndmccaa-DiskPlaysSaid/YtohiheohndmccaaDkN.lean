/- Contracts of the program's disk: Crash. -/
import Derived.Test.YtohiheohndmccaaDkM
import Derived.StillTailTactics
namespace Go.Proofs.Ytohiheohndmccaa
open Go.RowKit Go.Sort
open Go.Maps
attribute [local go_sem] Oper.semAt_some

def St.crash (t : St) (ks : List Int) : St := ⟨crD ks (size t.D) t.D, t.room, -1, 0⟩
theorem Row.but {O : Nat → Prop} {w w' : World} {a : Option Addr} {n c m : Nat} {cs : Nat → Value} (h : Row w w.heap.size a n c m cs) (hb : But O w w') (hfar : 0 < n → ∀ k o, a = some ⟨k, o, none⟩ → ¬ O k) : Row w' w'.heap.size a n c m cs :=
  ⟨h.le, h.max, fun hp => by
    obtain ⟨b, o, e, hlt, hc⟩ := h.at_ hp
    exact ⟨b, o, e, Nat.lt_of_lt_of_le hlt hb.size, fun k hk => (hb.cell hlt (hfar hp b o e)).trans (hc k hk)⟩⟩
theorem block_len (a : Option Addr) (n n' c : Nat) : (Value.slice a n c).ownBlock = (Value.slice a n' c).ownBlock := by cases a <;> rfl
theorem orO {O : Nat → Prop} {v : Option Nat} (h : ∀ k, v = some k → O k) : (fun k => O k ∨ v = some k) = O := by
  funext k
  exact propext ⟨fun hk => hk.elim id (h k), .inl⟩
theorem row_alloc {w : World} {a : Option Addr} {n c m : Nat} {cs : Nat → Value} (h : Row w w.heap.size a n c m cs) (o : Obj) : Row (w.alloc o) w.heap.size a n c m cs := h.below ((Below.refl w.heap.size w).alloc (Nat.le_refl _) o) (Nat.le_refl _)
theorem row_drew {w : World} {B : Nat} {a : Option Addr} {n c m : Nat} {cs : Nat → Value} (h : Row w B a n c m cs) : Row w.drew B a n c m cs := ⟨h.le, h.max, h.at_⟩
theorem row_set {w : World} {B : Nat} {a : Option Addr} {n c m : Nat} {cs : Nat → Value} (h : Row w B a n c m cs) (p : Addr) (hp : B ≤ p.block) (u : Value) : Row (w.setCell p u) B a n c m cs := h.below ((Below.refl B w).setCell hp u) (Nat.le_refl _)

set_option linter.unusedSimpArgs false in
set_option maxRecDepth 100000 in
set_option maxHeartbeats 3200000 in
theorem crash_any {w : World} {dp : Nat} {t : St} {O : Nat → Prop} (h : IsD w dp t O) (ks : List Int) (a : Option Addr) (n c : Nat) (hr : Row w w.heap.size a n c 1 (intsC ks)) (hn : ks.length = n) (hfar : 0 < n → ∀ k o, a = some ⟨k, o, none⟩ → ¬ O k) :
    Calls Try.prog 25 #[.pointer (some ⟨dp, 0, none⟩), .slice a n c] w (Turns w dp O (t.crash ks)) := by
  obtain ⟨mb, C, h⟩ := h
  have LS := Lib.hid (list_any h)
  have hO := h.lt
  have hgood := h.good
  have hz := h.good.size_
  have hnz : Hid ((strKeys t.D).length = size t.D) := size_names t.D
  have HH := Lib.hid (And.intro h (And.intro hr (And.intro hfar (And.intro hgood hO))))
  clear h hr hfar hgood hO
  go_enter Try.func25, Try.ntmps25
  go_wp2_with fail
  refine LS.out.mono ?_
  rintro e w0 ⟨g, nc, rfl, how, hb0⟩
  have hgb : w.heap.size ≤ g ∧ g < w0.heap.size := by
    rcases how.2 with ⟨h', _⟩ | ⟨g', cap', cur, h', h1, h2, _⟩
    · cases h'
    · injection h' with h'; injection h' with h'; injection h' with h'; subst h'; exact ⟨h1, lt_of_heap h2⟩
  have HN := Lib.hid (And.intro how hb0)
  clear how hb0 LS
  generalize hL : (strKeys t.D).length = L at *
  have HLn := Lib.hid hL
  have hLz : L ≤ 64 := by have := hnz.out; omega
  clear hL
  go_wp2_with fail
  go_loopw [10] (fun i wr => ∃ k : Nat, k ≤ L ∧ i = .int .i64 (k : Int) ∧ (∃ mb C, DskC wr dp mb C (crD ks k t.D) t.room t.fuse t.fails O) ∧ But O w0 wr) (fun i _ => L - (intOf i).toNat)
  case atStart => exact ⟨0, Nat.zero_le _, rfl, ⟨mb, C, by rw [crD_zero]; exact HH.out.1.below HN.out.2⟩, But.refl _ _⟩
  case round =>
    obtain ⟨k, hk, rfl, ⟨mb', C', hd⟩, hbt⟩ := hrel
    by_cases hlt : k < L
    · obtain ⟨_, hr0, hfar0, hG0, hO0⟩ := HH.out
      obtain ⟨s, hs⟩ : ∃ s, (strKeys t.D)[k]? = some s := ⟨_, List.getElem?_eq_getElem (by rw [HLn.out]; exact hlt)⟩
      obtain ⟨f, hf⟩ : ∃ f, fat t.D s = some f := Option.isSome_iff_exists.1 ((names_mem hG0 s).1 (List.mem_of_getElem? hs))
      have hfk : fat (crD ks k t.D) s = some f := by rw [fat_crD ks k hG0 hs hf, if_neg (by omega)]
      have hat := hG0.at_ hf
      have hsz : s.length ≤ 16 := by
        have := hat.1
        unfold nmOk at this
        simp at this
        omega
      have hgO : ¬ O g := fun ho => by have := hO0 g ho; omega
      have u0 : wr.cell? ⟨g, k, none⟩ = some (.string ⟨s.toArray⟩) := (hbt.cell hgb.2 hgO).trans (by
        rw [HN.out.1.cellAt k (by omega), List.getElem?_map, hs]; rfl)
      have c0 := hd.cell.1
      have hbs : (⟨s.toArray⟩ : ByteArray).size ≤ 281474976710656 := by show s.toArray.size ≤ _; simp; omega
      have hda : (⟨s.toArray⟩ : ByteArray).data.toList = s := by simp
      have LK := (hd.files.run_look (s := ⟨s.toArray⟩) (by unfold maxLen; omega) wr rfl).1
      rw [hda] at LK
      obtain ⟨f1, f2, f3, f4, f5, f6, f7, f8⟩ := hd.file_ s
      rw [hfk] at f1 f2 f3 f4 f5
      simp only [Option.getD_some] at f1 f2 f3 f4 f5
      have hnl := own_len f2
      have hm := crM_le ks k hat.2.1
      have hsub : Hid (crM ks k f = f.l + (keptV ks k (((cat C' (.string s)).n : Int) - (f.l : Int))).toNat) := by show _ = _; unfold crM; rw [hnl]
      have hq := keptV_le ks k (most := ((cat C' (.string s)).n : Int) - (f.l : Int)) (by omega)
      have hgc : Good ((crD ks k t.D).put (.string s) (.held ⟨f.bs.take (crM ks k f), crM ks k f⟩)) t.room := good_cr hd.good hfk ks k
      have hsucc : crD ks (k + 1) t.D = (crD ks k t.D).put (.string s) (.held ⟨f.bs.take (crM ks k f), crM ks k f⟩) := crD_succ ks k hG0 hs hf
      have hrw := ((hr0.below HN.out.2 (Nat.le_refl _)).more HN.out.2.size).but hbt hfar0
      unfold Fe.val at LK
      generalize crM ks k f = m at *
      generalize hfe : cat C' (.string s) = fe at *
      have w1 : IntKind.i64.wrap ((fe.n : Int) - (f.l : Int)) = (fe.n : Int) - (f.l : Int) := by rw [IntKind.wrap_i64]; omega
      generalize hqv : keptV ks k ((fe.n : Int) - (f.l : Int)) = q at *
      have w2 : IntKind.i64.wrap ((f.l : Int) + q) = (m : Int) := by rw [IntKind.wrap_i64]; have := hsub.out; omega
      have hmn : m ≤ fe.n := by omega
      have hmc : m ≤ fe.c := by
        rcases f2.2 with ⟨h', h0⟩ | ⟨g', cap', cur, h', _, _, h3, _⟩
        · unfold Fe.sl at h'; injection h' with _ h2' _; omega
        · unfold Fe.sl at h'; injection h' with _ h2' h3'; omega
      rw [f1] at LK
      have KT := Lib.hid (fun (x : World) (hx : Row x wr.heap.size a n c 1 (intsC ks)) => by have := kept_any ks a n c k ((fe.n : Int) - (f.l : Int)) wr.heap.size x hx hn (by omega); rw [hqv] at this; exact this)
      have cc : ∀ w, (Instr.slice 31 (.slice fe.a fe.n fe.c) none (some (.int .i64 (m : Int))) none).run Try.prog w = .ok (.slice fe.a m fe.c) w :=
        run_cut_to (P := Try.prog) 31 5 Try.underlying31 info_u8 fe.a fe.n fe.c m hmc
      have HB : Below wr.heap.size wr (wr.alloc (.cells #[.slice fe.a m fe.c, .int .i64 (m : Int)] 56)).drew := Below.drew ((Below.refl _ _).alloc (Nat.le_refl _) _)
      have LY := Lib.hid (lay_any ⟨s.toArray⟩ ((hd.below HB).x (⟨s.toArray⟩ : ByteArray).data.toList) hbs ⟨fe.a, m, fe.c, (m : Int)⟩ ⟨f.bs.take m, m⟩ rfl ((OwnB.cut f2 hmn).below HB)
        (fun k' f' b hk' hl hb => by rw [hda] at hk'; exact f6 k' f' b hk' hl ((block_len fe.a fe.n m fe.c).trans hb)) (fun b hb => (f7 b ((block_len fe.a fe.n m fe.c).trans hb)).2) (by rw [hda]; exact hgc))
      have HR := Lib.hid (And.intro hd (And.intro hbt (And.intro f7 (And.intro hsucc hrw))))
      clear hd hbt f1 f2 f3 f4 f5 f6 f7 f8 hr0 hfar0 hG0 hO0 hs hf hfk hat hsub hgc hsucc hfe hqv hq hm hnl hrw
      go_wp2_with fail
      obtain ⟨b0, b1⟩ := cells2 wr (.slice fe.a fe.n fe.c) (.int .i64 (f.l : Int)) 56
      have RW := row_drew (row_alloc HR.out.2.2.2.2 (.cells #[.slice fe.a fe.n fe.c, .int .i64 (f.l : Int)] 56))
      refine wp_region_still_tail 13 (by kernel_rfl) (by kernel_rfl) ?_
      change wpStill _ _ (wr.alloc (.cells #[.slice fe.a fe.n fe.c, .int .i64 (f.l : Int)] 56)).drew (fun a' => wpList _ _ _ _ a' (wr.alloc (.cells #[.slice fe.a fe.n fe.c, .int .i64 (f.l : Int)] 56)).drew) _ _
      have d0 : (wr.alloc (.cells #[.slice fe.a fe.n fe.c, .int .i64 (f.l : Int)] 56)).drew.cell? ⟨wr.heap.size, 0, none⟩ = some (.slice fe.a fe.n fe.c) := b0
      have d1 : (wr.alloc (.cells #[.slice fe.a fe.n fe.c, .int .i64 (f.l : Int)] 56)).drew.cell? ⟨wr.heap.size, 1, none⟩ = some (.int .i64 (f.l : Int)) := b1
      obtain ⟨Y, hY⟩ : ∃ Y, Y = (wr.alloc (.cells #[.slice fe.a fe.n fe.c, .int .i64 (f.l : Int)] 56)).drew := ⟨_, rfl⟩
      rw [← hY] at d0 d1 RW ⊢
      have HY := Lib.hid hY
      clear hY b0 b1
      simp only [List.take_succ_cons, List.take_zero, List.drop_succ_cons, List.drop_zero]
      repeat still_step
      still_call ((KT.out Y RW).mono fun e w' h => ⟨h.1, h.2.symm⟩)
      repeat still_step
      refine wpStill_nil ?_
      have hY := HY.out
      subst hY
      clear HY RW d0 d1
      go_wp2_with fail
      refine LY.out.mono ?_
      rintro e w6 hL
      have he := hL.1
      subst he
      have HL := Lib.hid hL
      have HB' := Lib.hid HB
      clear hL LY HB KT
      go_wp2
      go_roundw
      case rel =>
        obtain ⟨hd, hbt, f7, hsucc, _⟩ := HR.out
        refine ⟨k + 1, by omega, by go_num, ⟨mb', C'.put (.string s) (.held ⟨fe.a, m, fe.c, (m : Int)⟩), ?_⟩, (hbt.trans (But.of_below (O := O) HB'.out) (fun _ hi => .inl hi)).trans HL.out.2.2 (fun _ hi => .inl hi)⟩
        have h6 := HL.out.2.1
        rw [orO (v := (⟨fe.a, m, fe.c, (m : Int)⟩ : Fe).sl.ownBlock) (fun k' hb => (f7 k' ((block_len fe.a fe.n m fe.c).trans hb)).1)] at h6
        rw [hsucc]
        exact h6
      case measure => simp [intOf]; omega
    · have hkL : k = L := by omega
      subst hkL
      have hfz := hd.fuse_
      have hfl := hd.fails_
      have h1 := hd.set_ 2 (.int .i64 (-1)) (fuse' := -1) (fails' := t.fails) rfl (by decide) hd.fails_
      have h2 := h1.set_ 3 (.int .i64 0) (fuse' := -1) (fails' := 0) rfl (by decide) (by decide)
      have z := hd.cell.2.2.2.2
      have z2 := z 2
      have z3 := z 3
      have c2 := hd.cell.2.2.1
      have c3 := hd.cell.2.2.2.1
      have hB : But O w ((wr.setCell ⟨dp, 2, none⟩ (.int .i64 (-1))).setCell ⟨dp, 3, none⟩ (.int .i64 0)) := (((But.of_below (O := O) HN.out.2).trans hbt (fun _ hi => .inl hi)).setCell (p := ⟨dp, 2, none⟩) (.inl hd.dpO) _).setCell (p := ⟨dp, 3, none⟩) (.inl hd.dpO) _
      have HE := Lib.hid (And.intro h2 (And.intro hB hnz.out))
      clear hd hbt h1 h2 z hB hfz hfl
      go_wp2
      go_end0
      refine ⟨rfl, ⟨mb', C', ?_⟩, HE.out.2.1⟩
      have h2 := HE.out.1
      rw [HE.out.2.2] at h2
      exact h2
end Go.Proofs.Ytohiheohndmccaa
