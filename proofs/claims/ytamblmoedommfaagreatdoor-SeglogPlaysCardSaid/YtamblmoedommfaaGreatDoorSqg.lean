/- The program's log: room is made. The program's log: a torn segment is mended; the list is tha. The program's log: the files of segments that it does not ha. The program's log: Frames, Next, Segments. The program's log: the good segments of a list. The program's log: what restore does in turn. The program's log: restore's steps in turn. The program's log: restore. The program's log: Open. The program's log: Open. -/
import Derived.Test.YtamblmoedommfaaGreatDoorSqa
import Derived.Test.YtamblmoedommfaaGreatDoorSqf
namespace Go.Proofs.YtamblmoedommfaaGreatDoor
set_option maxRecDepth 100000
set_option maxHeartbeats 40000000
set_option linter.unusedVariables false
set_option linter.unusedSimpArgs false
set_option linter.unusedSectionVars false
section
open Go.RowKit Go.Sort Go.Maps Go.Shelf
open Crc Frm
open Sgn
attribute [local go_sem] Oper.semAt_some
theorem lturnK_any {σ : Type} (ss : List (σ → Int × σ)) (n : Nat) (hn : ss.length = n) (fs : Nat → FuncId) (ps cs : Nat → Array Value) (g : Nat) (w : World) (K : Nat → σ → World → Prop) (s0 : σ) (hn1 : n ≤ 1000)
 (hcell : ∀ k s w', k < n → K k s w' → w'.cell? ⟨g, k, none⟩ = some (.func (.func (fs k)) (ps k) (cs k)))
 (hc : ∀ k x, k < n → (callFunc (fs k) (ps k ++ cs k)).run Tryz.prog x = .ok (.enter (fs k) (ps k ++ cs k)) x)
 (hcall : ∀ k f s w', ss[k]? = some f → K k s w' → Calls Tryz.prog (fs k) (ps k ++ cs k) w' fun e w'' => e = .returned (.int .i64 (f s).1) ∧ K (k + 1) (f s).2 w'')
 (h0 : K 0 s0 w) :
 Calls Tryz.prog 31 #[.slice (some ⟨g, 0, none⟩) n n] w fun e w' => e = .returned (.int .i64 (turnS ss s0).1) ∧ ∃ k, K k (turnS ss s0).2 w' := by
 refine (lturn_any n fs ps cs g w (fun k w' => ∃ s, K k s w' ∧ turnS (ss.drop k) s = turnS ss s0) (fun x w' => x = (turnS ss s0).1 ∧ ∃ k, K k (turnS ss s0).2 w') hn1 ?_ hc ?_ ?_ ⟨s0, h0, rfl⟩).mono ?_
 · rintro k w' hk ⟨s, hs, _⟩
   exact hcell k s w' hk hs
 · rintro k w' hk ⟨s, hs, ht⟩
   have hk' : k < ss.length := by omega
   have hd : ss.drop k = ss[k] :: ss.drop (k + 1) := List.drop_eq_getElem_cons hk'
   rw [hd] at ht
   refine (hcall k ss[k] s w' (List.getElem?_eq_getElem hk') hs).mono ?_
   rintro e w'' ⟨rfl, hK⟩
   refine ⟨_, rfl, fun hz => ⟨_, hK, ?_⟩, fun hz => ?_⟩
   · rw [← ht]
     exact (if_neg (by simp [hz])).symm
   have e : turnS (ss[k] :: ss.drop (k + 1)) s = ss[k] s := if_pos hz
   rw [← ht, e]
   exact ⟨rfl, _, hK⟩
 · rintro w' ⟨s, hs, ht⟩
   rw [List.drop_of_length_le (by omega)] at ht
   rw [← ht]
   exact ⟨rfl, _, hs⟩
 rintro e w' ⟨x, rfl, rfl, hK⟩
 exact ⟨rfl, hK⟩
theorem lgLay_next (g : Lg) (t : St) (x : Int) : (lgLay g t x).2.2.next = g.next := by
 unfold lgLay
 simp only
 split
 · rfl
 split <;> rfl
theorem lgLay_ne {g : Lg} (h : g.segs ≠ []) (t : St) (x : Int) : (lgLay g t x).2.2.segs ≠ [] := by
 unfold lgLay
 simp only
 split
 · simp
 split <;> exact h
theorem lgRoom_ne {g : Lg} (h : g.segs ≠ []) (size : Nat) (t : St) (m : Nat) : (lgRoom size g t m).2.2.segs ≠ [] := by
 unfold lgRoom
 simp only
 split
 · exact h
 split
 · exact h
 split
 · exact h
 exact lgLay_ne h _ _
theorem lgRoom_next (g : Lg) (size : Nat) (t : St) (m : Nat) : (lgRoom size g t m).2.2.next = g.next := by
 unfold lgRoom
 simp only
 split
 · rfl
 split
 · rfl
 split
 · rfl
 exact lgLay_next _ _ _
section
variable {w0 w : World} {dp lp size : Nat} {g : Lg} {t : St} {D : Nat → Prop} {sa : Option Addr} {sc : Nat}
theorem room1_any (h : LK w0 w dp lp size g t D sa sc) (bl : Nat) (hl : w.cell? ⟨bl, 0, none⟩ = some (.pointer (some ⟨lp, 0, none⟩))) (hbl : ¬ lO D lp sa bl) (hL : Laid w0) (hlen : g.segs.length ≤ 1000) :
 Calls Tryz.prog 125 #[.pointer (some ⟨bl, 0, none⟩)] w fun e w' => e = .returned (.int .i64 (lgLay g t g.next).1) ∧ LMv w0 w dp lp size (lO D lp sa) (lgLay g t g.next).2.2 (lgLay g t g.next).2.1 w' := by
 have c3 := h.at_.c3
 have hll : bl < w.heap.size := block_lt_of_cell hl
 have LY := Qh (lglay_any (h.on (Below.drew (Below.refl w.heap.size w))) g.next hL hlen)
 have HO : Hid (¬ lO D lp sa bl) := hbl
 have HN := Qh (lgLay_next g t g.next)
 clear h hL hlen hbl
 generalize lgLay g t g.next = r at *
 go_enter Tryz.func125, Tryz.ntmps125
 go_wp2_with fail
 refine wp_region_held_drew (S := fun x => x.cell? ⟨bl, 0, none⟩ = some (.pointer (some ⟨lp, 0, none⟩)) ∧ x.cell? ⟨lp, 3, none⟩ = some (.int .i64 g.next)) (by kernel_rfl) ⟨hl, c3⟩ (fun hHeld => ?_)
 refine qi 0 (by assumption) ?_
 iterate 5 (refine qk rfl (by kernel_rfl) (fun _ _ _ h => h) (by intro w hSw; (try dsimp only at hSw); go_simp; all_goals with_reducible rfl) (by (try simp only [Act.put, lz]); rfl) ?_)
 refine qo ?_
 refine qr 5 rfl (by kernel_rfl) (fun K hK => ?_)
 rw [if_pos (by rfl)]
 go_simp
 go_at_call 84
 refine LY.out.mono ?_
 rintro e w2 ⟨rfl, hm⟩
 have HM := Qh (LMv.then (But.of_below (Below.drew (Below.refl w.heap.size w))) (fun _ hk => .inl hk) hm)
 obtain ⟨D2, sa2, sc2, k2, b2, _⟩ := hm
 have c32 := k2.at_.c3
 rw [HN.out] at c32
 refine hK.out _ _ ?_ (fun hHeld => ?_)
 · exact ⟨(b2.cell (b := bl) (o := 0) hll HO.out).trans hl, c32⟩
 clear hK K
 try simp only [Act.put, lz]
 refine qi 6 (by assumption) ?_
 refine qk rfl (by kernel_rfl) (fun _ _ _ h => h) (by intro w hSw; (try dsimp only at hSw); go_simp; all_goals with_reducible rfl) (by (try simp only [Act.put, lz]); rfl) ?_
 refine qo ?_
 refine wpAnyH_done (by kernel_rfl) ?_ _
 clear k2 b2 hHeld LY
 go_wp2
 go_ret
 exact ⟨rfl, HM.out⟩
abbrev rmF : Nat → FuncId
 | 0 => 26
 | _ => 125
abbrev rmP (lp : Nat) : Nat → Array Value
 | 0 => #[.pointer (some ⟨lp, 0, none⟩)]
 | _ => #[]
abbrev rmC (bl : Nat) : Nat → Array Value
 | 0 => #[]
 | _ => #[.pointer (some ⟨bl, 0, none⟩)]
def roomSS : List (Lg × St → Int × (Lg × St)) := [fun s => ((lgSync s.1 s.2).1, (s.1, (lgSync s.1 s.2).2)), fun s => ((lgLay s.1 s.2 s.1.next).1, ((lgLay s.1 s.2 s.1.next).2.2, (lgLay s.1 s.2 s.1.next).2.1))]
theorem roomSS_is (g : Lg) (t : St) : turnS roomSS (g, t) = if (lgSync g t).1 ≠ 0 then ((lgSync g t).1, (g, (lgSync g t).2)) else ((lgLay g (lgSync g t).2 g.next).1, ((lgLay g (lgSync g t).2 g.next).2.2, (lgLay g (lgSync g t).2 g.next).2.1)) := by
 unfold roomSS turnS
 simp only
 by_cases h : (lgSync g t).1 ≠ 0
 · rw [if_pos h, if_pos h]
 rw [if_neg h, if_neg h]
 unfold turnS
 simp only
 split
 · rfl
 rename_i h1
 rw [Decidable.not_not] at h1
 exact Prod.ext h1.symm rfl
theorem rooms_any (h : LK w0 w dp lp size g t D sa sc) (hne : g.segs ≠ []) (bl gb : Nat) (hl : w.cell? ⟨bl, 0, none⟩ = some (.pointer (some ⟨lp, 0, none⟩))) (hbl : ¬ lO D lp sa bl) (hL : Laid w0) (hlen : g.segs.length ≤ 1000)
 (hgb : ¬ lO D lp sa gb) (hc : ∀ k, k < 2 → w.cell? ⟨gb, k, none⟩ = some (.func (.func (rmF k)) (rmP lp k) (rmC bl k))) :
 Calls Tryz.prog 31 #[.slice (some ⟨gb, 0, none⟩) 2 2] w fun e w' => e = .returned (.int .i64 (turnS roomSS (g, t)).1) ∧ LMv w0 w dp lp size (lO D lp sa) (turnS roomSS (g, t)).2.1 (turnS roomSS (g, t)).2.2 w' := by
 have hll : bl < w.heap.size := block_lt_of_cell hl
 have hgl : gb < w.heap.size := block_lt_of_cell (hc 0 (by omega))
 have k2 : ∀ x : World, (callFunc 26 (rmP lp 0 ++ rmC bl 0)).run Tryz.prog x = .ok (.enter 26 (rmP lp 0 ++ rmC bl 0)) x := fun x => by kernel_rfl
 have k3 : ∀ x : World, (callFunc 125 (rmP lp 1 ++ rmC bl 1)).run Tryz.prog x = .ok (.enter 125 (rmP lp 1 ++ rmC bl 1)) x := fun x => by kernel_rfl
 refine (lturnK_any roomSS 2 rfl rmF (rmP lp) (rmC bl) gb w (fun k s w' => (k ≤ 1 → s.1 = g) ∧ LMv w0 w dp lp size (lO D lp sa) s.1 s.2 w') (g, t) (by omega) ?_ ?_ ?_ ⟨fun _ => rfl, h.still Qb⟩).mono fun e w' ⟨he, _, _, hm⟩ => ⟨he, hm⟩
 · rintro k s w' hk ⟨_, D', sa', sc', _, hb, _⟩
   exact (hb.cell hgl hgb).trans (hc k hk)
 · intro k x hk
   match k, hk with
   | 0, _ => exact k2 x
   | 1, _ => exact k3 x
 rintro k f s w' hf ⟨hg, D', sa', sc', hk1, hb, hO⟩
 have d1 := (hb.cell (o := 0) hll hbl).trans hl
 have nO : ¬ lO D' lp sa' bl := fun ho => by rcases hO bl ho with h4 | h4; exact hbl h4; omega
 match k, hf with
 | 0, hf =>
  injection hf with hf; subst hf
  obtain ⟨g', t'⟩ := s
  have e : g' = g := hg (by omega)
  subst e
  exact (lsync_any hk1 hne hL).mono fun e w'' ⟨he, hm⟩ => ⟨he, fun _ => rfl, LMv.then hb hO hm⟩
 | 1, hf =>
  injection hf with hf; subst hf
  obtain ⟨g', t'⟩ := s
  have e : g' = g := hg (by omega)
  subst e
  exact (room1_any hk1 bl d1 nO hL hlen).mono fun e w'' ⟨he, hm⟩ => ⟨he, fun h => absurd h (by omega), LMv.then hb hO hm⟩
 | k + 2, hf => simp [roomSS] at hf
theorem makeRoom_any (h : LK w0 w dp lp size g t D sa sc) (hne : g.segs ≠ []) (hL : Laid w0) (more : Nat) (hmore : more ≤ 1000000000) (hsize : size ≤ 1000000000) :
 Calls Tryz.prog 70 #[.pointer (some ⟨lp, 0, none⟩), .int .i64 (more : Int)] w fun e w' => e = .returned (.int .i64 (lgRoom size g t more).1) ∧ LMv w0 w dp lp size (lO D lp sa) (lgRoom size g t more).2.2 (lgRoom size g t more).2.1 w' := by
 have hmf : ∀ (fn : Fn) (first cap : Array Value) (w : World), (Instr.makeFunc fn first cap).run Tryz.prog w = .ok (.func fn first cap) w := fun _ _ _ _ => rfl
 have hb1 : Below w.heap.size w (w.alloc (.cells #[.pointer (some ⟨lp, 0, none⟩)] 29)) := Qb.alloc Qn _
 have IF := Qh (isFull_any (h.on hb1) hne hL more hmore hsize)
 have hR : Hid (lgRoom size g t more = if lgFull size g t more = false then (0, t, g) else if 40 ≤ g.segs.length then (5, t, g) else if (lgSync g t).1 ≠ 0 then ((lgSync g t).1, (lgSync g t).2, g) else lgLay g (lgSync g t).2 g.next) := rfl
 have hcl : (w.alloc (.cells #[.pointer (some ⟨lp, 0, none⟩)] 29)).cell? ⟨w.heap.size, 0, none⟩ = some (.pointer (some ⟨lp, 0, none⟩)) := cell_of_one (heap_alloc_new _ _)
 obtain ⟨wa, hwa⟩ : ∃ wa, wa = w.alloc (.cells #[.pointer (some ⟨lp, 0, none⟩)] 29) := ⟨_, rfl⟩
 have hsa : wa.heap.size = w.heap.size + 1 := by rw [hwa]; simp
 rw [← hwa] at hcl hb1
 have HA := Qh (Qa hcl (Qa hb1 (Qa h (Qa hne (Qa hL hsa)))))
 clear hcl hb1 h hne hL hsa
 by_cases hf : lgFull size g t more = true
 · rw [hf] at IF
   go_enter Tryz.func70, Tryz.ntmps70
   go_wp2_with fail
   refine IF.out.mono ?_
   rintro e w2 ⟨rfl, hb2⟩
   rw [← hwa] at hb2
   have hB2 : Below w.heap.size w w2 := HA.out.2.1.trans (hb2.mono HA.out.2.1.size)
   have hl2 := (hb2.cell (p := ⟨w.heap.size, 0, none⟩) (by have := HA.out.2.2.2.2.2; show w.heap.size < _; omega)).trans HA.out.1
   have hK2 := HA.out.2.2.1.on hB2
   have c2 := hK2.at_.c2
   obtain ⟨n, hn⟩ : ∃ n, n = g.segs.length := ⟨_, rfl⟩
   rw [← hn] at c2 hR
   by_cases h40 : 40 ≤ n
   · have h40' : (40 : Int) ≤ (n : Int) := by omega
     have HB := Qh (Qa hB2 hK2)
     clear hB2 hb2 hK2 IF hn
     go_wp2
     go_ret
     rw [hR.out, hf, if_neg (by simp), if_pos h40]
     exact ⟨rfl, HA.out.2.2.1.still HB.out.1⟩
   have h40' : (n : Int) < 40 := by omega
   obtain ⟨w4, hw4⟩ : ∃ w4, w4 = w2.alloc (.cells #[.func (.func 26) #[.pointer (some ⟨lp, 0, none⟩)] #[], .func (.func 125) #[] #[.pointer (some ⟨w.heap.size, 0, none⟩)]] 62) := ⟨_, rfl⟩
   have hb4 : Below w2.heap.size w2 w4 := by rw [hw4]; exact Qb.alloc Qn _
   have hO2 := hK2.lt
   have hO0 := HA.out.2.2.1.lt
   have hc4 : ∀ k, k < 2 → w4.cell? ⟨w2.heap.size, k, none⟩ = some (.func (.func (rmF k)) (rmP lp k) (rmC w.heap.size k)) := by
    intro k hk
    rw [hw4]
    match k, hk with
    | 0, _ => exact (cell_of_row _ _ 0 _ _ _ (heap_alloc_new w2 _)).trans rfl
    | 1, _ => exact (cell_of_row _ _ 1 _ _ _ (heap_alloc_new w2 _)).trans rfl
   have RM := rooms_any (hK2.on hb4) HA.out.2.2.2.1 w.heap.size w2.heap.size ((hb4.cell (p := ⟨w.heap.size, 0, none⟩) (block_lt_of_cell hl2)).trans hl2) (fun ho => by have := hO0 _ ho; omega) HA.out.2.2.2.2.1 (by omega) (fun ho => by have := hO2 _ ho; omega) hc4
   have hrm : Hid ((if (lgSync g t).1 ≠ 0 then ((lgSync g t).1, (lgSync g t).2, g) else lgLay g (lgSync g t).2 g.next) = ((turnS roomSS (g, t)).1, (turnS roomSS (g, t)).2.2, (turnS roomSS (g, t)).2.1)) := by
    show _ = _
    rw [roomSS_is]
    split <;> rfl
   generalize turnS roomSS (g, t) = r at *
   have HW := Qh (hB2.trans (hb4.mono hB2.size))
   have HW4 := Qh hw4
   rw [hw4] at RM
   have RM := Qh RM
   clear hb2 hK2 IF hn hb4 hc4 hw4 hO2 hO0 hB2
   go_wp2_with fail
   refine RM.out.mono ?_
   rintro e w5 ⟨rfl, hm⟩
   rw [← HW4.out] at hm
   have HM := Qh hm
   clear hm RM
   go_wp2
   go_ret
   have hres : lgRoom size g t more = (r.1, r.2.2, r.2.1) := by rw [hR.out, hf, if_neg (by simp), if_neg h40, hrm.out]
   rw [hres]
   exact ⟨rfl, LMv.then (But.of_below HW.out) (fun _ hk => .inl hk) HM.out⟩
 have hf' : lgFull size g t more = false := by simpa using hf
 rw [hf'] at IF
 go_enter Tryz.func70, Tryz.ntmps70
 go_wp2_with fail
 refine IF.out.mono ?_
 rintro e w2 ⟨rfl, hb2⟩
 rw [← hwa] at hb2
 have hB2 := Qh (HA.out.2.1.trans (hb2.mono HA.out.2.1.size))
 clear hb2 IF
 go_wp2
 go_ret
 rw [hR.out, hf', if_pos rfl]
 exact ⟨rfl, HA.out.2.2.1.still hB2.out⟩
end
end
section
open Go.RowKit Go.Sort Go.Maps Go.Shelf
open Crc Frm
open Sgn
attribute [local go_sem] Oper.semAt_some
section
variable {w0 w : World} {dp lp size : Nat} {g : Lg} {t : St} {D : Nat → Prop} {sa : Option Addr} {sc : Nat}
theorem mend4_any (h : LK w0 w dp lp size g t D sa sc) (hne : g.segs ≠ []) (bl : Nat) (hl : w.cell? ⟨bl, 0, none⟩ = some (.pointer (some ⟨lp, 0, none⟩))) (hbl : ¬ D bl) (hL : Laid w0) :
 Calls Tryz.prog 152 #[.pointer (some ⟨bl, 0, none⟩)] w fun e w' => e = .returned (.int .i64 (t.rename fxL (lgLast g)).1) ∧ Mv w0 w dp D (t.rename fxL (lgLast g)).2 w' := by
 have c0 := h.at_.c0
 have hlt := h.at_.lt
 have hown := h.own
 have hll : bl < w.heap.size := block_lt_of_cell hl
 have LA := Qh (fun x (hb : Below w.heap.size w x) => last_any (h.at_.on hb) hne ((h.laid hL).on hb))
 have H := Qh h
 have hsz := nmS_size (g.segs.getLastD 0)
 change ByteArray.size ⟨(lgLast g).toArray⟩ ≤ 11 at hsz
 obtain ⟨r, hr9⟩ : ∃ r, r = t.rename fxL (lgLast g) := ⟨_, rfl⟩
 rw [← hr9]
 have HR9 := Qh hr9
 clear h hL hne hr9
 go_enter Tryz.func152, Tryz.ntmps152
 go_wp2_with fail
 refine wp_region_held_drew (S := fun x => x.cell? ⟨lp, 0, none⟩ = some (.pointer (some ⟨dp, 0, none⟩)) ∧ x.cell? ⟨bl, 0, none⟩ = some (.pointer (some ⟨lp, 0, none⟩))) (by kernel_rfl) ⟨c0, hl⟩ (fun hHeld => ?_)
 refine qi 0 (by assumption) ?_
 iterate 5 (refine qk rfl (by kernel_rfl) (fun _ _ _ h => h) (by intro w hSw; (try dsimp only at hSw); go_simp; all_goals with_reducible rfl) (by (try simp only [Act.put, lz]); rfl) ?_)
 refine qo ?_
 refine qr 5 rfl (by kernel_rfl) (fun K hK => ?_)
 rw [if_pos (by rfl)]
 go_simp
 go_at_call 72
 refine (LA.out _ (Below.drew Qb)).mono ?_
 rintro e w2 ⟨rfl, hb2⟩
 have B2 : Below w.heap.size w w2 := below_drew_of hb2
 clear hb2
 have c02 := (B2.cell (p := ⟨lp, 0, none⟩) hlt).trans c0
 have cl2 := (B2.cell (p := ⟨bl, 0, none⟩) hll).trans hl
 have RN := (H.out.on B2).dk.rename ⟨fxL.toArray⟩ ⟨(lgLast g).toArray⟩ (by decide) (by omega)
 change Calls _ _ _ _ (fun e w' => e = .returned (.int .i64 (t.rename fxL (lgLast g)).1) ∧ Mv w0 w2 dp D (t.rename fxL (lgLast g)).2 w') at RN
 rw [← HR9.out] at RN
 unfold fxL at RN
 have RN := Qh RN
 refine hK.out _ _ ?_ (fun hHeld => ?_)
 · exact ⟨c02, cl2⟩
 clear hK K
 try simp only [Act.put, lz]
 refine qr 6 rfl (by kernel_rfl) (fun K hK => ?_)
 rw [if_pos (by rfl)]
 go_simp
 go_at_call 60
 refine RN.out.mono ?_
 rintro e w3 ⟨rfl, hm⟩
 have HM := Qh (Mv.behind B2 hm)
 obtain ⟨D3, k3, b3, d3⟩ := hm
 refine hK.out _ _ ?_ (fun hHeld => ?_)
 · exact ⟨(b3.cell (b := lp) (o := 0) (Nat.lt_of_lt_of_le hlt B2.size) hown).trans c02, (b3.cell (b := bl) (o := 0) (Nat.lt_of_lt_of_le hll B2.size) hbl).trans cl2⟩
 clear hK K
 try simp only [Act.put, lz]
 refine qi 7 (by assumption) ?_
 refine qk rfl (by kernel_rfl) (fun _ _ _ h => h) (by intro w hSw; (try dsimp only at hSw); go_simp; all_goals with_reducible rfl) (by (try simp only [Act.put, lz]); rfl) ?_
 refine qo ?_
 refine wpAnyH_done (by kernel_rfl) ?_ _
 go_wp2
 go_ret
 exact ⟨rfl, HM.out⟩
def mendSS (g : Lg) (b : List Nat) : List (St → Int × St) := [fun t => t.drop fxL, fun t => t.write fxL b, fun t => t.sync fxL, fun t => t.rename fxL (lgLast g)]
theorem mendSS_is (g : Lg) (b : List Nat) (t : St) : turnS (mendSS g b) t = lgMend g (some b) t := by
 have e : ∀ (r : Int × St) (f : St → Int × St), r.1 ≠ 0 → thenSt r f = r := fun r f h => if_pos h
 have e0 : ∀ (r : Int × St) (f : St → Int × St), r.1 = 0 → thenSt r f = f r.2 := fun r f h => if_neg (by simp [h])
 unfold lgMend mendSS turnS
 simp only
 by_cases h1 : (t.drop fxL).1 = 0
 · rw [if_neg (by simp [h1]), e0 _ _ h1]
   unfold turnS
   by_cases h2 : ((t.drop fxL).2.write fxL b).1 = 0
   · rw [if_neg (by simp [h2]), e0 _ _ h2]
     unfold turnS
     by_cases h3 : (((t.drop fxL).2.write fxL b).2.sync fxL).1 = 0
     · rw [if_neg (by simp [h3]), e0 _ _ h3]
       unfold turnS
       split
       · rfl
       rename_i h4
       rw [Decidable.not_not] at h4
       exact Prod.ext h4.symm rfl
     rw [if_pos h3, e _ _ h3]
   rw [if_pos h2, e _ _ h2, e _ _ h2]
 rw [if_pos h1, e _ _ h1, e _ _ h1, e _ _ h1]
abbrev meF : Nat → FuncId
 | 0 => 149
 | 1 => 150
 | 2 => 151
 | _ => 152
abbrev meC (bl bs : Nat) : Nat → Array Value
 | 1 => #[.pointer (some ⟨bl, 0, none⟩), .pointer (some ⟨bs, 0, none⟩)]
 | _ => #[.pointer (some ⟨bl, 0, none⟩)]
theorem mends_any (h : LK w0 w dp lp size g t D sa sc) (hne : g.segs ≠ []) (bl bs gb : Nat) (hl : w.cell? ⟨bl, 0, none⟩ = some (.pointer (some ⟨lp, 0, none⟩))) (hDl : ¬ D bl) (b : List Nat) (a : Option Addr) (n c : Nat) (hs : w.cell? ⟨bs, 0, none⟩ = some (.slice a n c)) (hDs : ¬ D bs)
 (hr : Sl w w.heap.size a n c b) (hn : n ≤ 100000000) (hfar : ∀ k o, a = some ⟨k, o, none⟩ → ¬ D k ∧ k < w.heap.size) (hL : Laid w0)
 (hDb : ¬ D gb) (hc4 : ∀ k, k < 4 → w.cell? ⟨gb, k, none⟩ = some (.func (.func (meF k)) #[] (meC bl bs k))) :
 Calls Tryz.prog 31 #[.slice (some ⟨gb, 0, none⟩) 4 4] w fun e w' => e = .returned (.int .i64 (lgMend g (some b) t).1) ∧ Mv w0 w dp D (lgMend g (some b) t).2 w' := by
 have hbl : bl < w.heap.size := block_lt_of_cell hl
 have hlt := h.at_.lt
 have hlp := h.own
 have hbs : bs < w.heap.size := block_lt_of_cell hs
 have hgb : gb < w.heap.size := block_lt_of_cell (hc4 0 (by omega))
 have k2 : ∀ x : World, (callFunc 149 (#[] ++ meC bl bs 0)).run Tryz.prog x = .ok (.enter 149 (#[] ++ meC bl bs 0)) x := fun x => by kernel_rfl
 have k3 : ∀ x : World, (callFunc 150 (#[] ++ meC bl bs 1)).run Tryz.prog x = .ok (.enter 150 (#[] ++ meC bl bs 1)) x := fun x => by kernel_rfl
 have k4 : ∀ x : World, (callFunc 151 (#[] ++ meC bl bs 2)).run Tryz.prog x = .ok (.enter 151 (#[] ++ meC bl bs 2)) x := fun x => by kernel_rfl
 have k5 : ∀ x : World, (callFunc 152 (#[] ++ meC bl bs 3)).run Tryz.prog x = .ok (.enter 152 (#[] ++ meC bl bs 3)) x := fun x => by kernel_rfl
 rw [← mendSS_is]
 refine lturnS_any (mendSS g b) 4 rfl meF (fun _ => #[]) (meC bl bs) gb w (fun t' w' => Mv w0 w dp D t' w') t (by omega) ?_ ?_ ?_ (Mv.still h.dk Qb)
 · rintro k s w' hk ⟨D', _, hb, _⟩
   exact (hb.cell hgb hDb).trans (hc4 k hk)
 · intro k x hk
   match k, hk with
   | 0, _ => exact k2 x
   | 1, _ => exact k3 x
   | 2, _ => exact k4 x
   | 3, _ => exact k5 x
 rintro k f s w' hf' ⟨D', hk1, hb, hD⟩
 have nD : ∀ i, i < w.heap.size → ¬ D i → ¬ D' i := fun i hi hn ho => by rcases hD i ho with h4 | h4; exact hn h4; omega
 have d1 := (hb.cell (o := 0) hbl hDl).trans hl
 have d2 := (hb.cell (o := 0) hbs hDs).trans hs
 have hK := h.but hk1 hb hD
 have d0 := hK.at_.c0
 match k, hf' with
 | 0, hf' =>
  injection hf' with hf'; subst hf'
  exact (mend1_any hk1 d0 (nD _ hlt hlp) d1 (nD _ hbl hDl)).mono fun e w'' ⟨he, hm⟩ => ⟨he, Mv.then hb hD hm⟩
 | 1, hf' =>
  injection hf' with hf'; subst hf'
  have hs' : Sl w' w'.heap.size a n c b := hr.same_ hb.size (fun hp k o e => hb.block k (hfar k o e).2 (hfar k o e).1)
  exact (mend2_any hk1 d0 (nD _ hlt hlp) d1 (nD _ hbl hDl) bs b a n c d2 (nD _ hbs hDs) hs' hn (fun k o e => nD k (hfar k o e).2 (hfar k o e).1)).mono fun e w'' ⟨he, hm⟩ => ⟨he, Mv.then hb hD hm⟩
 | 2, hf' =>
  injection hf' with hf'; subst hf'
  exact (mend3_any hk1 d0 (nD _ hlt hlp) d1 (nD _ hbl hDl)).mono fun e w'' ⟨he, hm⟩ => ⟨he, Mv.then hb hD hm⟩
 | 3, hf' =>
  injection hf' with hf'; subst hf'
  exact (mend4_any hK hne bl d1 (nD _ hbl hDl) hL).mono fun e w'' ⟨he, hm⟩ => ⟨he, Mv.then hb hD hm⟩
 | k + 4, hf' => simp [mendSS] at hf'
theorem mend_any (h : LK w0 w dp lp size g t D sa sc) (hne : g.segs ≠ []) (good : Option (List Nat)) (a : Option Addr) (n c : Nat) (hr : Sl w w.heap.size a n c (good.getD [])) (hn : n ≤ 100000000) (hfar : ∀ k o, a = some ⟨k, o, none⟩ → ¬ D k ∧ k < w.heap.size) (hL : Laid w0) :
 Calls Tryz.prog 88 #[.pointer (some ⟨lp, 0, none⟩), .slice a n c, .bool good.isSome] w fun e w' => e = .returned (.int .i64 (lgMend g good t).1) ∧ Mv w0 w dp D (lgMend g good t).2 w' := by
 have hmf : ∀ (fn : Fn) (first cap : Array Value) (w : World), (Instr.makeFunc fn first cap).run Tryz.prog w = .ok (.func fn first cap) w := fun _ _ _ _ => rfl
 cases good with
 | none =>
  have HM := Qh (Mv.still h.dk (((Below.refl w.heap.size w).alloc Qn (.cells #[.pointer (some ⟨lp, 0, none⟩)] 29)).alloc (by simp) (.cells #[.slice a n c] 38)))
  clear h hr
  go_enter Tryz.func88, Tryz.ntmps88
  go_wp2
  go_ret
  exact ⟨rfl, HM.out⟩
 | some b =>
  obtain ⟨w4, hw4⟩ : ∃ w4, w4 = ((w.alloc (.cells #[.pointer (some ⟨lp, 0, none⟩)] 29)).alloc (.cells #[.slice a n c] 38)).alloc (.cells #[.func (.func 149) #[] #[.pointer (some ⟨w.heap.size, 0, none⟩)], .func (.func 150) #[] #[.pointer (some ⟨w.heap.size, 0, none⟩), .pointer (some ⟨w.heap.size + 1, 0, none⟩)],
   .func (.func 151) #[] #[.pointer (some ⟨w.heap.size, 0, none⟩)], .func (.func 152) #[] #[.pointer (some ⟨w.heap.size, 0, none⟩)]] 62) := ⟨_, rfl⟩
  have hb4 : Below w.heap.size w w4 := by rw [hw4]; exact ((Qb.alloc Qn _).alloc (by simp) _).alloc (by simp; omega) _
  have hz4 : w4.heap.size = w.heap.size + 3 := by rw [hw4]; simp
  have hl4 : w4.cell? ⟨w.heap.size, 0, none⟩ = some (.pointer (some ⟨lp, 0, none⟩)) := by rw [hw4]; simp [go_sem]
  have hs4 : w4.cell? ⟨w.heap.size + 1, 0, none⟩ = some (.slice a n c) := by rw [hw4]; simp [go_sem]
  have hc4 : ∀ k, k < 4 → w4.cell? ⟨w.heap.size + 2, k, none⟩ = some (.func (.func (meF k)) #[] (meC w.heap.size (w.heap.size + 1) k)) := by
   intro k hk
   rw [hw4, show w.heap.size + 2 = ((w.alloc (.cells #[.pointer (some ⟨lp, 0, none⟩)] 29)).alloc (.cells #[.slice a n c] 38)).heap.size from by simp]
   match k, hk with
   | 0, _ => exact (cell_of_row _ _ 0 _ _ _ (heap_alloc_new _ _)).trans rfl
   | 1, _ => exact (cell_of_row _ _ 1 _ _ _ (heap_alloc_new _ _)).trans rfl
   | 2, _ => exact (cell_of_row _ _ 2 _ _ _ (heap_alloc_new _ _)).trans rfl
   | 3, _ => exact (cell_of_row _ _ 3 _ _ _ (heap_alloc_new _ _)).trans rfl
  have hDlt := h.dk.lt
  have nD : ∀ k, w.heap.size ≤ k → ¬ D k := fun k hk h => by have := hDlt _ h; omega
  have ME := mends_any (h.on hb4) hne w.heap.size (w.heap.size + 1) (w.heap.size + 2) hl4 (nD _ Qn) b a n c hs4 (nD _ (by omega)) ((hr.below hb4 Qn).more hb4.size) hn (fun k o e => ⟨(hfar k o e).1, Nat.lt_of_lt_of_le (hfar k o e).2 hb4.size⟩) hL (nD _ (by omega)) hc4
  have HB := Qh (Qa hb4 hw4)
  rw [hw4] at ME
  have ME := Qh ME
  clear h hr hl4 hs4 hc4 hb4 hz4 hw4 nD hDlt hfar
  generalize lgMend g (some b) t = r at *
  go_enter Tryz.func88, Tryz.ntmps88
  go_wp2_with fail
  refine ME.out.mono ?_
  rintro e w5 ⟨rfl, hm⟩
  rw [← HB.out.2] at hm
  have HM := Qh (Mv.behind HB.out.1 hm)
  clear hm ME
  go_wp2
  go_ret
  exact ⟨rfl, HM.out⟩
def lgList (g : Lg) (listed : Nat) (t : St) : Int × St := if g.segs.length = listed then (0, t) else mSwap t g.segs
theorem listGood_any (h : LK w0 w dp lp size g t D sa sc) (listed : Nat) (hlen : g.segs.length ≤ 1000) (hli : listed ≤ 1000) :
 Calls Tryz.prog 86 #[.pointer (some ⟨lp, 0, none⟩), .int .i64 (listed : Int)] w fun e w' => e = .returned (.int .i64 (lgList g listed t).1) ∧ Mv w0 w dp D (lgList g listed t).2 w' := by
 have c0 := h.at_.c0
 have c2 := h.at_.c2
 have hlt := h.at_.lt
 have hown := h.own
 have HM0 := Qh (Mv.still h.dk Qb)
 have SW := Qh (mswap_any (h.dk.on (Below.drew (Below.refl w.heap.size w))) g.segs sa g.segs.length sc (row_drew h.at_.row) rfl (fun _ k o e => (h.far k o e).1))
 obtain ⟨n, hn⟩ : ∃ n, n = g.segs.length := ⟨_, rfl⟩
 have hL : Hid (lgList g listed t = if n = listed then (0, t) else mSwap t g.segs) := by rw [hn]; rfl
 rw [← hn] at c2 SW
 have HS := Qh (Qa h hn)
 clear h hn
 generalize mSwap t g.segs = r at *
 by_cases he : n = listed
 · have hre : Hid (lgList g listed t = (0, t)) := hL.out.trans (if_pos he)
   have he' : ((n : Int) == (listed : Int)) = true := by simp [he]
   clear he
   go_enter Tryz.func86, Tryz.ntmps86
   go_wp2
   go_ret
   rw [hre.out]
   exact ⟨rfl, HM0.out⟩
 have hre : Hid (lgList g listed t = r) := hL.out.trans (if_neg he)
 have he' : ((n : Int) == (listed : Int)) = false := by simp; omega
 clear he
 go_enter Tryz.func86, Tryz.ntmps86
 go_wp2_with fail
 refine wp_region_held_drew (S := fun x => x.cell? ⟨lp, 0, none⟩ = some (.pointer (some ⟨dp, 0, none⟩)) ∧ x.cell? ⟨lp, 2, none⟩ = some (.slice sa n sc)) (by kernel_rfl) ⟨c0, c2⟩ (fun hHeld => ?_)
 refine qi 0 (by assumption) ?_
 iterate 8 (refine qk rfl (by kernel_rfl) (fun _ _ _ h => h) (by intro w hSw; (try dsimp only at hSw); go_simp; all_goals with_reducible rfl) (by (try simp only [Act.put, lz]); rfl) ?_)
 refine qo ?_
 refine qr 8 rfl (by kernel_rfl) (fun K hK => ?_)
 rw [if_pos (by rfl)]
 go_simp
 go_at_call 78
 refine SW.out.mono ?_
 rintro e w2 ⟨rfl, hm⟩
 have HM := Qh (Mv.behind (Below.drew (Below.refl w.heap.size w)) hm)
 obtain ⟨D2, _, b2, _⟩ := hm
 refine hK.out _ _ ?_ (fun hHeld => ?_)
 · exact ⟨(b2.cell (b := lp) (o := 0) hlt hown).trans c0, (b2.cell (b := lp) (o := 2) hlt hown).trans c2⟩
 clear hK K
 try simp only [Act.put, lz]
 refine qi 9 (by assumption) ?_
 refine qk rfl (by kernel_rfl) (fun _ _ _ h => h) (by intro w hSw; (try dsimp only at hSw); go_simp; all_goals with_reducible rfl) (by (try simp only [Act.put, lz]); rfl) ?_
 refine qo ?_
 refine wpAnyH_done (by kernel_rfl) ?_ _
 go_wp2
 go_ret
 rw [hre.out]
 exact ⟨rfl, HM.out⟩
end
end
section
open Go.RowKit Go.Sort Go.Maps Go.Shelf
open Crc Frm
open Sgn
attribute [local go_sem] Oper.semAt_some
def FoundI (l : List Int) (x r : Int) : Prop := (x ∈ l → 0 ≤ r) ∧ (x ∉ l → r = -1)
theorem nmOk_short {s : List UInt8} (h : nmOk s = true) : s.length ≤ 16 := by
 unfold nmOk at h
 rw [Bool.and_eq_true, decide_eq_true_eq] at h
 exact h.1.2
theorem indexI_any (a : Option Addr) (n c : Nat) (l : List Int) (x : Int) (w : World) (hr : Row w w.heap.size a n c 1 (intsC l)) (hn : l.length = n) :
 Calls Tryz.prog 213 #[.slice a n c, .int .i64 x] w fun e w' => ∃ r : Int, e = .returned (.int .i64 r) ∧ FoundI l x r ∧ w' = w := by
 have hrm := hr.max
 have hrl := hr.le
 unfold maxLen at hrm
 have HR := Qh hr
 clear hr
 go_enter Tryz.func213, Tryz.ntmps213
 go_wp2_with fail
 go_loopw [5, 8] (fun _ i wr => ∃ k : Nat, k ≤ n ∧ i = .int .i64 (k : Int) ∧ (∀ j, j < k → l.getD j 0 ≠ x) ∧ wr = w) (fun _ i _ => n - (intOf i).toNat)
 case atStart => exact ⟨0, Nat.zero_le _, rfl, fun j hj => absurd hj (by omega), rfl⟩
 case round =>
  obtain ⟨k, hk, rfl, hnot, rfl⟩ := hrel
  have HN := Qh hnot
  clear hnot
  by_cases hlt : k < n
  · obtain ⟨b, o, rfl, hb, hc⟩ := HR.out.at_ (by omega)
    obtain ⟨v, hv⟩ : ∃ v, v = l.getD k 0 := ⟨_, rfl⟩
    have cx := hc k (by omega)
    simp only [intsC] at cx
    rw [← hv] at cx
    have HV := Qh hv
    clear hc hv
    by_cases he : x = v
    · have he' : (x == v) = true := by simpa using he
      have hmem : x ∈ l := by
       rw [he, HV.out, List.getD_eq_getElem?_getD, List.getElem?_eq_getElem (by omega)]
       exact List.getElem_mem _
      have HM := Qh hmem
      clear he hmem
      go_wp2
      go_ret
      exact ⟨(k : Int), rfl, ⟨fun _ => by omega, fun h => absurd HM.out h⟩, rfl⟩
    have he' : (x == v) = false := by simpa using he
    have HE := Qh he
    clear he
    go_wp2
    go_roundw
    case rel =>
     refine ⟨k + 1, by omega, by go_num, fun j hj => ?_, by trivial⟩
     by_cases hjk : j = k
     · subst hjk
       rw [← HV.out]
       exact fun h => HE.out h.symm
     exact HN.out j (by omega)
    case measure => simp [intOf]; omega
  have hkn : k = n := by omega
  subst hkn
  go_wp2
  go_ret
  refine ⟨-1, rfl, ⟨fun h => ?_, fun _ => rfl⟩, rfl⟩
  exfalso
  obtain ⟨j, hj, e⟩ := List.getElem_of_mem h
  exact HN.out j (by omega) (by rw [List.getD_eq_getElem?_getD, List.getElem?_eq_getElem hj]; exact e)
theorem contains_any (a : Option Addr) (n c : Nat) (l : List Int) (x : Int) (w : World) (hr : Row w w.heap.size a n c 1 (intsC l)) (hn : l.length = n) :
 Calls Tryz.prog 189 #[.slice a n c, .int .i64 x] w fun e w' => e = .returned (.bool (l.contains x)) ∧ w' = w := by
 have IX := Qh (indexI_any a n c l x w hr hn)
 have hc : l.contains x = decide (x ∈ l) := by rw [Bool.eq_iff_iff]; simp
 rw [hc]
 by_cases hm : x ∈ l
 · have IX := Qh (IX.out.mono fun e w' (h : ∃ r : Int, e = .returned (.int .i64 r) ∧ FoundI l x r ∧ w' = w) => (by obtain ⟨r, h1, h2, h3⟩ := h; exact ⟨r, h1, h2.1 hm, h3⟩ : ∃ r : Int, e = .returned (.int .i64 r) ∧ 0 ≤ r ∧ w' = w))
   rw [decide_eq_true hm]
   clear hr hc hm
   go_enter Tryz.func189, Tryz.ntmps189
   go_wp2_with fail
   refine IX.out.mono ?_
   rintro e w2 ⟨r, rfl, h0, rfl⟩
   go_wp2
   go_ret
   exact ⟨rfl, rfl⟩
 have IX := Qh (IX.out.mono fun e w' (h : ∃ r : Int, e = .returned (.int .i64 r) ∧ FoundI l x r ∧ w' = w) => (by obtain ⟨r, h1, h2, h3⟩ := h; exact ⟨r, h1, h2.2 hm, h3⟩ : ∃ r : Int, e = .returned (.int .i64 r) ∧ r = -1 ∧ w' = w))
 rw [decide_eq_false hm]
 clear hr hc hm
 go_enter Tryz.func189, Tryz.ntmps189
 go_wp2_with fail
 refine IX.out.mono ?_
 rintro e w2 ⟨r, rfl, h0, rfl⟩
 subst h0
 go_wp2
 go_ret
 exact ⟨rfl, rfl⟩
theorem stray_any (lp : Nat) (w : World) :
 Calls Tryz.prog 142 #[.pointer (some ⟨lp, 0, none⟩)] w fun e w' =>
  e = .returned (.func (.func 187) #[] #[.pointer (some ⟨w.heap.size, 0, none⟩)]) ∧ w' = w.alloc (.cells #[.pointer (some ⟨lp, 0, none⟩)] 29) := by
 go_enter Tryz.func142, Tryz.ntmps142
 go_wp2
 go_ret
 exact ⟨rfl, rfl⟩
abbrev isStray (g : Lg) (s : List UInt8) : Bool := (fst s).2 && !g.segs.contains (fst s).1
theorem stray_tells {w0 w : World} {dp lp sz bl : Nat} {g : Lg} {t : St} {D : Nat → Prop} {sa : Option Addr} {sc : Nat} (h : LogC w lp dp sz g sa sc) (hl : w.cell? ⟨bl, 0, none⟩ = some (.pointer (some ⟨lp, 0, none⟩))) (hDl : ¬ D bl) (hDp : ¬ D lp) (hDs : ∀ k o, sa = some ⟨k, o, none⟩ → ¬ D k) (hL : Laid w0) :
 TellsU Fence.wide 11 Tryz.prog 187 #[.pointer (some ⟨bl, 0, none⟩)] encS shortS (fun pre d X => UDx w0 w dp D D (delRun pre t) d X) (KpD w.heap.size) (· = lgStray g (strKeys t.D)) (fun pre => ∃ post, lgStray g (strKeys t.D) = pre ++ post) w := by
 intro l J Jx W d0 hBW hW2 hJ hU hY h0
 have hbl := block_lt_of_cell hl
 have CE : Hid (∀ pre d X, J pre d X → X.cell? ⟨bl, 0, none⟩ = some (.pointer (some ⟨lp, 0, none⟩)) ∧ LogC X lp dp sz g sa sc ∧ DK w0 X dp (delRun pre t) d ∧ ∀ k, d k → D k ∨ w.heap.size + 2 ≤ k) := fun pre d X hj => by
  obtain ⟨k1, k2, k3⟩ := hU pre d X hj
  exact ⟨(k2.cell (b := bl) (o := 0) hbl hDl).trans hl, h.but k2 hDp hDs, k1, k3⟩
 have HY := Qh (Qa hJ (Qa hY hL))
 obtain ⟨s1, s2, s3, s4⟩ := CE.out _ _ _ h0
 have LS := s3.list
 change Calls _ _ _ _ (NewNames W (strKeys t.D)) at LS
 have LS := Qh LS
 have sc0 := s2.c0
 have hnm := Qh (size_names t.D)
 have hsz64 := s3.good.size_
 change size t.D ≤ 64 at hsz64
 have hgood := s3.good
 have hshort : ∀ s ∈ strKeys t.D, s.length ≤ 1000 := by
  intro s hs
  obtain ⟨f, hf⟩ := Option.isSome_iff_exists.1 ((names_mem hgood s).1 hs)
  have := nmOk_short (hgood.at_ hf).1; omega
 have HS := Qh (Qa h0 (Qa hshort (Qa s3.lt (Qa s4 hBW.size))))
 obtain ⟨nl, hnl⟩ : ∃ nl, nl = strKeys t.D := ⟨_, rfl⟩
 have hn64 : nl.length ≤ 64 := by rw [hnl, size_names]; exact hsz64
 rw [← hnl] at LS HS ⊢
 clear hsz64 hshort s3 s4 s2 hgood hnl h hDl hDp hDs hU hJ hY h0 hL hBW hl
 refine callsIn_of_wp Tryz.func187 rfl trivial ?_ rfl
 simp only [Tryz.ntmps187, List.size_toArray, List.length_cons, List.length_nil, Nat.reduceAdd, Nat.reduceSub, Array.replicate_succ, Array.replicate_zero, List.push_toArray, List.append_toArray, List.nil_append, List.cons_append]
 gi_wp2_with fail
 refine ⟨trivial, (callsIn_wide.2 LS.out).mono ?_⟩
 rintro e w2 hN
 obtain ⟨gb, gc, rfl, hrow, hgb, hb2⟩ := hN.out
 have hJ2 := HY.out.1 _ _ _ _ HS.out.1 hb2
 obtain ⟨n, hn⟩ : ∃ n, n = nl.length := ⟨_, rfl⟩
 rw [← hn] at hrow hn64 ⊢
 have hrl := hrow.le
 have hrm := hrow.max
 unfold maxLen at hrm
 have hdg : ¬ d0 gb := fun hd => by have := HS.out.2.2.1 _ hd; omega
 have hg2 : ∀ j, j < n → w2.cell? ⟨gb, j, none⟩ = some (.string ⟨(nl.getD j []).toArray⟩) := fun j hj => by
  obtain ⟨b, o, e, hlt, hc⟩ := hrow.at_ (by omega)
  injection e with e
  injection e with e1 e2
  subst e1 e2
  have := hc j (by omega)
  rw [Nat.zero_add] at this
  exact this
 have hgl : 0 < n → gb < w2.heap.size := fun hp => by
  obtain ⟨b, o, e, hlt, hc⟩ := hrow.at_ hp
  injection e with e
  injection e with e1 e2
  omega
 have hgW : w.heap.size + 2 ≤ gb := Nat.le_trans hW2 hgb
 have HGW := Qh hgW
 have HN := Qh hn
 have HJ2 := Qh (Qa hJ2 (Qa hdg (Qa hg2 hgl)))
 clear hN hb2 hJ2 hdg hg2 hgl LS hrow hn
 clear hgW hgb hW2
 gi_wp2_with fail
 gi_loopw [4, 5, 6, 13, 17] (fun _ _ _ i _ wr => ∃ (k : Nat) (pre : List (List UInt8)) (d : Nat → Prop), k ≤ n ∧ i = .int .i64 (k : Int) ∧ J pre d wr ∧ ¬ d gb ∧ (∀ j, j < n → wr.cell? ⟨gb, j, none⟩ = some (.string ⟨(nl.getD j []).toArray⟩)) ∧ (0 < n → gb < wr.heap.size) ∧ pre ++ (nl.drop k).filter (isStray g) = lgStray g nl) (fun _ _ _ i _ _ => n - (intOf i).toNat)
 case atStart => exact ⟨0, [], d0, Nat.zero_le _, rfl, HJ2.out.1, HJ2.out.2.1, HJ2.out.2.2.1, HJ2.out.2.2.2, rfl⟩
 case round =>
  obtain ⟨k, pre, d, hk, rfl, hJs, hdg, hcs, hgl, hpre⟩ := hrel
  by_cases hlt : k < n
  · obtain ⟨hcl, hLC, hDK, hdk⟩ := CE.out _ _ _ hJs
    have hck := hcs k hlt
    have hgl0 := hgl (by omega)
    have hmem : nl.getD k [] ∈ nl := by
     rw [List.getD_eq_getElem?_getD, List.getElem?_eq_getElem (by have := HN.out; omega)]
     exact List.getElem_mem _
    have hdrop : nl.drop k = nl.getD k [] :: nl.drop (k + 1) := by
     rw [List.drop_eq_getElem_cons (by have := HN.out; omega), List.getD_eq_getElem?_getD, List.getElem?_eq_getElem (by have := HN.out; omega)]
     rfl
    have hsh := HS.out.2.1 _ hmem
    rw [hdrop, List.filter_cons] at hpre
    obtain ⟨s, hs⟩ : ∃ s, s = nl.getD k [] := ⟨_, rfl⟩
    rw [← hs] at hck hsh hpre
    have hck0 : wr.cell? ⟨gb, 0 + k, none⟩ = some (.string ⟨s.toArray⟩) := by rw [Nat.zero_add]; exact hck
    have SF := segFirst_any ⟨s.toArray⟩ (by show s.length ≤ _; omega) wr (HY.out.2.2.on hDK.below)
    change Calls _ _ _ _ (fun e w' => e = .returned (.tuple #[.int .i64 (fst s).1, .bool (fst s).2]) ∧ Below wr.heap.size wr w') at SF
    have hst : Hid (isStray g s = ((fst s).2 && !g.segs.contains (fst s).1)) := rfl
    have SF := Qh SF
    have HP := Qh (Qa hJs (Qa hdg (Qa hcs (Qa hgl0 (Qa hpre (Qa hsh hLC))))))
    clear hJs hdg hcs hgl hpre hsh hDK hdk hmem hdrop hs hLC
    generalize fst s = q at *
    obtain ⟨x, is⟩ := q
    gi_wp2_with fail
    refine ⟨trivial, (callsIn_wide.2 SF.out).mono ?_⟩
    rintro e w3 ⟨rfl, hb3⟩
    have hJ3 := HY.out.1 _ _ _ _ HP.out.1 hb3
    have hc3 : ∀ j, j < n → w3.cell? ⟨gb, j, none⟩ = some (.string ⟨(nl.getD j []).toArray⟩) := fun j hj => (hb3.cell (p := ⟨gb, j, none⟩) HP.out.2.2.2.1).trans (HP.out.2.2.1 j hj)
    have hl3 := (hb3.cell (p := ⟨bl, 0, none⟩) (block_lt_of_cell hcl)).trans hcl
    have hL3 := HP.out.2.2.2.2.2.2.on hb3
    have c23 := hL3.c2
    have hz3 := hb3.size
    have HJ3 := Qh (Qa hJ3 (Qa hc3 (Qa hz3 hL3)))
    clear hJ3 hc3 hb3 SF hcl hck hck0 hL3
    cases is with
    | false =>
     have hres : Hid (pre ++ (nl.drop (k + 1)).filter (isStray g) = lgStray g nl) := by
      show _ = _
      have h1 := HP.out.2.2.2.2.1
      rw [hst.out] at h1
      simpa using h1
     gi_wp2
     refine ⟨trivial, ?_⟩
     gi_wp2
     refine ⟨fun _ h => (by cases h), ?_⟩
     gi_wp2
     go_roundw
     case rel => exact ⟨k + 1, pre, d, by omega, by go_num, HJ3.out.1, HP.out.2.1, HJ3.out.2.1, fun _ => Nat.lt_of_lt_of_le HP.out.2.2.2.1 HJ3.out.2.2.1, hres.out⟩
     case measure => simp [intOf]; omega
    | true =>
     have CT := Qh (contains_any sa g.segs.length sc g.segs x w3 HJ3.out.2.2.2.row rfl)
     cases hct : g.segs.contains x with
     | true =>
      have hres : Hid (pre ++ (nl.drop (k + 1)).filter (isStray g) = lgStray g nl) := by
       show _ = _
       have h1 := HP.out.2.2.2.2.1
       rw [hst.out, hct] at h1
       simpa using h1
      rw [hct] at CT
      clear hct hst
      gi_wp2_with fail
      refine ⟨trivial, (callsIn_wide.2 CT.out).mono ?_⟩
      rintro e w4 ⟨rfl, rfl⟩
      gi_wp2
      refine ⟨fun _ h => (by cases h), ?_⟩
      gi_wp2
      go_roundw
      case rel => exact ⟨k + 1, pre, d, by omega, by go_num, HJ3.out.1, HP.out.2.1, HJ3.out.2.1, fun _ => Nat.lt_of_lt_of_le HP.out.2.2.2.1 HJ3.out.2.2.1, hres.out⟩
      case measure => simp [intOf]; omega
     | false =>
      have hres : Hid (pre ++ s :: (nl.drop (k + 1)).filter (isStray g) = lgStray g nl) := by
       show _ = _
       have h1 := HP.out.2.2.2.2.1
       rw [hst.out, hct] at h1
       simpa using h1
      rw [hct] at CT
      have hsh2 : shortS s := by have := HP.out.2.2.2.2.2.1; unfold shortS; omega
      obtain ⟨fn, tmps, assign, body, hy, hR⟩ := HY.out.2.1 pre d s w3 HJ3.out.1 hsh2
      simp only [encS] at hy
      have HR := Qh hR
      clear hct hst hR hsh2
      gi_wp2_with fail
      refine ⟨trivial, (callsIn_wide.2 CT.out).mono ?_⟩
      rintro e w4 ⟨rfl, rfl⟩
      clear CT
      gi_wp2
      refine HR.out.mono ?_
      rintro e Y (⟨rfl, d', hJ4, hkp⟩ | ⟨rfl, hJx4⟩)
      · have H4 := Qh (Qa hJ4 hkp)
        clear hJ4 hkp HR hy
        gi_wp2
        go_roundw
        case rel =>
         have hgz := HP.out.2.2.2.1
         have hz3 := HJ3.out.2.2.1
         have hgW := HGW.out
         have hsame := H4.out.2.2.1 gb (by omega) HP.out.2.1 (by omega) (by omega)
         refine ⟨k + 1, pre ++ [s], d', by omega, by go_num, H4.out.1, fun hd => ?_, fun j hj => ?_, fun _ => ?_, by rw [List.append_assoc]; exact hres.out⟩
         · rcases H4.out.2.2.2 gb hd with h5 | h5
           · exact HP.out.2.1 h5
           omega
         · exact (World.cell?_of_block (a := ⟨gb, j, none⟩) hsame).trans (HJ3.out.2.1 j hj)
         have := H4.out.2.1; omega
        case measure => simp [intOf]; omega
      have H4 := Qh hJx4
      clear hJx4 HR hy
      gi_wp2
      refine bodyPost_ret (results_none rfl _ _ _) rfl ?_
      exact ⟨⟨_, rfl⟩, .inr ⟨_, ⟨(nl.drop (k + 1)).filter (isStray g), by rw [List.append_assoc]; exact hres.out.symm⟩, H4.out⟩⟩
  have hkn : k = n := by omega
  subst hkn
  have HE := Qh (Qa hJs hpre)
  clear hJs hpre hcs hdg hgl
  gi_wp2
  go_end0
  refine ⟨⟨_, rfl⟩, .inl ⟨pre, d, ?_, HE.out.1⟩⟩
  have h1 := HE.out.2
  rw [List.drop_of_length_le (by have := HN.out; omega)] at h1
  simpa using h1
theorem deleteStray_any {w0 w : World} {dp lp sz : Nat} {g : Lg} {t : St} {D : Nat → Prop} {sa : Option Addr} {sc : Nat} (h : LK w0 w dp lp sz g t D sa sc) (hL : Laid w0) :
 Calls Tryz.prog 82 #[.pointer (some ⟨lp, 0, none⟩)] w fun e w' => e = .returned (.int .i64 (lgClean g t).1) ∧ Mv w0 w dp D (lgClean g t).2 w' := by
 obtain ⟨w1, hw1⟩ : ∃ w1, w1 = w.alloc (.cells #[.pointer (some ⟨lp, 0, none⟩)] 29) := ⟨_, rfl⟩
 have hb1 : Below w.heap.size w w1 := by rw [hw1]; exact Qb.alloc Qn _
 have hl1 : w1.cell? ⟨w.heap.size, 0, none⟩ = some (.pointer (some ⟨lp, 0, none⟩)) := by rw [hw1]; exact cell_of_one (heap_alloc_new _ _)
 have hK1 := h.on hb1
 have hz1 : w1.heap.size = w.heap.size + 1 := by rw [hw1]; simp
 have hDlt := h.dk.lt
 have DA := deleteAll_any hK1.dk hK1.at_.c0 hK1.own 187 #[.pointer (some ⟨w.heap.size, 0, none⟩)] (lgStray g (strKeys t.D)) (fun args x => enters_of Tryz.func187 (by kernel_rfl) rfl args x) (fun W hW => stray_tells (hK1.at_.on hW) ((hW.cell (p := ⟨w.heap.size, 0, none⟩) (by show w.heap.size < _; omega)).trans hl1) (fun hd => by have := hDlt _ hd; omega) hK1.own (fun k o e => (hK1.far k o e).1) hL)
 change Calls _ _ _ _ (fun e w' => e = .returned (.int .i64 (lgClean g t).1) ∧ Mv w0 w1 dp D (lgClean g t).2 w') at DA
 have SY := Qh (stray_any lp w)
 have HB := Qh (Qa hb1 hw1)
 rw [hw1] at DA
 have DA := Qh DA
 clear h hK1 hb1 hl1 hw1 hz1
 generalize lgClean g t = r at *
 go_enter Tryz.func82, Tryz.ntmps82
 go_wp2_with fail
 refine SY.out.mono ?_
 rintro e w2 ⟨rfl, rfl⟩
 go_wp2_with fail
 refine DA.out.mono ?_
 rintro e w3 ⟨rfl, hm⟩
 rw [← HB.out.2] at hm
 have HM := Qh (Mv.behind HB.out.1 hm)
 clear hm DA SY
 go_wp2
 go_ret
 exact ⟨rfl, HM.out⟩
end
section
open Go.RowKit Go.Sort Go.Maps Go.Shelf
open Crc Frm
open Sgn
attribute [local go_sem] Oper.semAt_some
theorem fcells_append (ts ts2 : List FC) : fcells (ts ++ ts2) = fcells ts ++ fcells ts2 := by simp [fcells]
theorem wpList_append_frs {w : World} {ops : Array Oper} {rest : List Oper} {o : Oper} {a : Act} {Q : Exit → Act → World → Prop} (hgd : o.guard = none) (s x : Operand)
 (ho : o.op = .call { callee := .builtin .append, args := #[s, x], argTypes := #[46, 46] })
 (base base2 : Nat) (v v2 : Value) (ts ts2 : List FC) (hs : a.eval s = v) (hx : a.eval x = v2)
 (hown : OwnF w base v ts) (hown2 : OwnF w base2 v2 ts2) (hbn : ∀ t ∈ ts2, ∀ b o, t.2.1 = some ⟨b, o, none⟩ → some b ≠ v.ownBlock) (hn : ts.length + ts2.length ≤ 200000000) (hbase : base ≤ w.heap.size)
 (h : ∀ v' w', OwnF w' base v' (ts ++ ts2) → w.grownBy w' v.ownBlock → (v'.ownBlock = v.ownBlock ∨ v'.ownBlock = some w.heap.size) → wpList Tryz.prog ops Q rest (a.put o.dst v') w') :
 wpList Tryz.prog ops Q (o :: rest) a w := by
 obtain ⟨i, hi, hz0, hz1, hz2⟩ := info_parts info_frame
 rcases hown2.own.2 with ⟨hv2, h0⟩ | ⟨g, cap, cur, hv2, hb, hh, hle, hc, hsz, htk⟩
 · have hts : ts2 = [] := List.eq_nil_of_length_eq_zero h0
   subst hts
   rw [hv2] at hx
   refine wpList_append_own_none hgd s x 46 ho base 69 i 3 Tryz.underlying46 hi v ts.length (fcells ts) hs hown.own hx ?_
   exact h v w (by simpa using hown) (World.grownBy.refl w _) (.inl rfl)
 rw [hv2] at hx
 have hown3 := hown2.own
 rw [hv2] at hown3
 refine wpList_append_own_at w hgd s x 46 ho base 69 i (.agg #[.int .i64 0, .int .i64 0, .slice none 0 0]) 3 40 Tryz.underlying46 hi hz0 hz1 hz2 rfl (by decide) v ts.length (fcells ts) hs hown.own ⟨g, 0, none⟩ ts2.length cap (fcells ts2) hx (fcells_len ts2) ?_ ?_ (by unfold maxLen; omega) (by omega) hbase ?_
 · intro j u hj
   have hj3 : j < (fcells ts2).length := (List.getElem?_eq_some_iff.1 hj).1
   rw [fcells_len] at hj3
   rw [Addr.add_mid, Nat.zero_add, World.ownsRow.cellAt hown3 j hj3, hj]
 · intro u hu
   obtain ⟨t, _, ht⟩ := List.mem_flatMap.1 hu
   simp at ht
   rcases ht with rfl | rfl | rfl <;> rfl
 intro v' w' h1 h2 _ h4
 refine h v' w' ⟨by rw [List.length_append, fcells_append]; exact h1, ?_⟩ h2 h4
 have key : ∀ (x : FC), (Sl w w.heap.size x.2.1 x.1.body.length x.2.2 x.1.body ∧ (0 < x.1.body.length → ∀ b o, x.2.1 = some ⟨b, o, none⟩ → some b ≠ v.ownBlock)) →
  Sl w' w'.heap.size x.2.1 x.1.body.length x.2.2 x.1.body ∧ (0 < x.1.body.length → ∀ b o, x.2.1 = some ⟨b, o, none⟩ → some b ≠ v'.ownBlock) := by
  rintro x ⟨hx, hne⟩
  refine ⟨(hx.kept h2 hne).more h2.size, fun hp b o e => ?_⟩
  rcases h4 with h4 | h4
  · rw [h4]; exact hne hp b o e
  rw [h4]
  obtain ⟨b', o', e', hlt, _⟩ := hx.at_ hp
  rw [e] at e'
  injection e' with e'
  injection e' with e'
  intro hx
  injection hx with hx
  omega
 intro x hx
 rcases List.mem_append.1 hx with hx | hx
 · exact key x (hown.bodies x hx)
 exact key x ⟨(hown2.bodies x hx).1, fun _ b o e => hbn x hx b o e⟩
section
variable {w0 w : World} {dp lp size : Nat} {g : Lg} {t : St} {D : Nat → Prop} {sa : Option Addr} {sc : Nat}
theorem LK.onB {w' : World} (h : LK w0 w dp lp size g t D sa sc) (hb : Below w.heap.size w w') : LK w0 w' dp lp size g t D sa sc := h.on hb
theorem lgnext_any (h : LK w0 w dp lp size g t D sa sc) : Calls Tryz.prog 17 #[.pointer (some ⟨lp, 0, none⟩)] w fun e w' => e = .returned (.int .i64 g.next) ∧ w' = w := by
 have c3 := h.at_.c3
 clear h
 go_enter Tryz.func17, Tryz.ntmps17
 go_wp2
 go_ret
 exact ⟨rfl, rfl⟩
theorem segments_any (h : LK w0 w dp lp size g t D sa sc) (hlen : g.segs.length ≤ 1000) : Calls Tryz.prog 20 #[.pointer (some ⟨lp, 0, none⟩)] w fun e w' => ∃ v, e = .returned v ∧ OwnV w' w.heap.size 2 v (i64V g.segs) ∧ Below w.heap.size w w' := by
 have c2 := h.at_.c2
 have CL := Qh (clone_ints sa g.segs.length sc g.segs w h.at_.row rfl h.at_.nil_ (by omega))
 clear h
 generalize i64V g.segs = l at *
 go_enter Tryz.func20, Tryz.ntmps20
 go_wp2_with fail
 refine CL.out.mono ?_
 rintro e w2 ⟨v, rfl, hv⟩
 have HV := Qh hv
 clear hv CL
 go_wp2
 go_ret
 exact ⟨v, rfl, HV.out⟩
def lgFr (t : St) (l : List Int) : List Fr := l.flatMap fun x => (rd (t.bytes (nm x))).2.1
theorem lgFr_snoc (t : St) (l : List Int) (x : Int) : lgFr t (l ++ [x]) = lgFr t l ++ (rd (t.bytes (nm x))).2.1 := by simp [lgFr]
theorem scanN_many : ∀ (k : Nat) (bs : List Nat) (first : Int), (scanN k bs first).1.length ≤ k
 | 0, _, _ => by simp [scanN]
 | k + 1, bs, first => by
  simp only [scanN]
  split
  · have := scanN_many k (bs.drop (get bs).2.1) (first + 1)
    simp only [List.length_cons]
    omega
  simp
theorem rd_many (bs : List Nat) : (rd bs).2.1.length ≤ bs.length + 1 := by
 unfold rd
 split
 · simp
 have := scanN_many ((bs.drop 12).length + 1) (bs.drop 12) ((rh bs).1 : Int)
 rw [List.length_drop] at this
 have e : (scan (bs.drop 12) ((rh bs).1 : Int)) = scanN ((bs.drop 12).length + 1) (bs.drop 12) ((rh bs).1 : Int) := rfl
 rw [List.length_drop] at e
 simp only [e]
 omega
theorem frames_any (h : LK w0 w dp lp size g t D sa sc) (hL : Laid w0) (hlen : g.segs.length ≤ 100) :
 Calls Tryz.prog 15 #[.pointer (some ⟨lp, 0, none⟩)] w fun e w' => ∃ v ts, e = .returned v ∧ OwnF w' w.heap.size v ts ∧ ts.map (·.1) = lgFrames g t ∧ Below w.heap.size w w' ∧ BB w.heap.size ts := by
 have c2 := h.at_.c2
 have hrow := h.at_.row
 have H := Qh (Qa h hL)
 obtain ⟨n, hn⟩ : ∃ n, n = g.segs.length := ⟨_, rfl⟩
 rw [← hn] at c2 hrow hlen
 have hrm := hrow.max
 have hrl := hrow.le
 unfold maxLen at hrm
 clear h hL
 go_enter Tryz.func15, Tryz.ntmps15
 go_wp2_with fail
 go_loopw [3, 5, 6, 7, 8, 9, 10, 11, 17, 21, 31] (fun v _ _ _ _ _ _ _ i _ _ wr => ∃ (k : Nat) (ts : List FC) (au : Option Addr) (cu : Nat), k ≤ n ∧ i = .int .i64 (k : Int) ∧ v = .slice au ts.length cu ∧ OwnF wr w.heap.size (.slice au ts.length cu) ts ∧ ts.map (·.1) = lgFr t (g.segs.take k) ∧ ts.length ≤ k * 1100000 ∧ Below w.heap.size w wr ∧ BB w.heap.size ts) (fun _ _ _ _ _ _ _ _ i _ _ _ => n - (intOf i).toNat)
 case atStart => exact ⟨0, [], none, 0, Nat.zero_le _, rfl, rfl, OwnF.nil_ _ _, rfl, by simp, Below.refl _ _, fun t ht => by cases ht⟩
 case round =>
  obtain ⟨k, ts, au, cu, hk, rfl, rfl, ho, hts, htl, hB, hbb⟩ := hrel
  by_cases hlt : k < n
  · have hrw := (hrow.below hB Qn).more hB.size
    obtain ⟨b, o, rfl, hb, hc⟩ := hrw.at_ (by omega)
    obtain ⟨x, hx⟩ : ∃ x, x = g.segs.getD k 0 := ⟨_, rfl⟩
    have cx : wr.cell? ⟨b, o + k, none⟩ = some (.int .i64 x) := (hc k (by omega)).trans (by rw [hx])
    have htk : g.segs.take (k + 1) = g.segs.take k ++ [x] := by
     rw [List.take_add_one, hx, List.getD_eq_getElem?_getD, List.getElem?_eq_getElem (by omega)]
     rfl
    have HT : Hid (lgFr t (g.segs.take (k + 1)) = lgFr t (g.segs.take k) ++ (rd (t.bytes (nm x))).2.1) := by
     show _ = _
     rw [htk, lgFr_snoc]
    have hK := H.out.1.onB hB
    have c0 := hK.at_.c0
    have hlt0 := hK.at_.lt
    have NM := Qh (fun y (hy : Below wr.heap.size wr y) => name_any x y ((hK.laid H.out.2).on hy))
    have hby := Qh (fat_byte hK.dk.good (nm x))
    have hbl := bytes_le hK.dk.good (nm x)
    have HO := Qh (Qa ho (Qa hts (Qa hB (Qa hbb hK))))
    have hsz := nmS_size x
    clear ho hts hB hbb hK hrw hc hx htk hb
    go_wp2_with fail
    refine wp_region_held_drew (S := fun x => x.cell? ⟨lp, 0, none⟩ = some (.pointer (some ⟨dp, 0, none⟩))) (by kernel_rfl) c0 (fun hHeld => ?_)
    refine qi 0 (by assumption) ?_
    iterate 5 (refine qk rfl (by kernel_rfl) (fun _ _ _ h => h) (by intro w hSw; (try dsimp only at hSw); go_simp; all_goals with_reducible rfl) (by (try simp only [Act.put, lz]); rfl) ?_)
    refine qo ?_
    refine qr 5 rfl (by kernel_rfl) (fun K hK => ?_)
    rw [if_pos (by rfl)]
    go_simp
    go_at_call 54
    refine (NM.out _ (Below.drew Qb)).mono ?_
    rintro e w2 ⟨rfl, hb2⟩
    have B2 : Below wr.heap.size wr w2 := below_drew_of hb2
    clear hb2
    have c02 := (B2.cell (p := ⟨lp, 0, none⟩) hlt0).trans c0
    refine hK.out _ _ ?_ (fun hHeld => ?_)
    · exact c02
    clear hK K
    try simp only [Act.put, lz]
    refine qr 6 rfl (by kernel_rfl) (fun K hK => ?_)
    rw [if_pos (by rfl)]
    go_simp
    go_at_call 50
    refine ((HO.out.2.2.2.2.on B2).dk.read ⟨(nm x).toArray⟩ (by unfold maxLen; omega)).mono ?_
    rintro e w3 hN
    change NewBytes w2 (t.bytes (nm x)) (fat t.D (nm x)).isSome _ _ at hN
    change Hid (∀ c ∈ t.bytes (nm x), c < 256) at hby
    generalize (fat t.D (nm x)).isSome = is at *
    have hrd := rd_many (t.bytes (nm x))
    generalize t.bytes (nm x) = bs at *
    obtain ⟨a3, n3, rfl, s3, _, b3⟩ := NewBytes.out (HO.out.2.2.2.2.on B2).dk hN hby.out
    have B3 := B2.trans (b3.mono B2.size)
    have RD := Qh (segRead_anyB a3 bs.length n3 bs w3 s3 (by omega))
    generalize rd bs = r at *
    clear s3 hN hby
    generalize bs.length = q at *
    refine hK.out _ _ ?_ (fun hHeld => ?_)
    · exact (b3.cell (p := ⟨lp, 0, none⟩) (Nat.lt_of_lt_of_le hlt0 B2.size)).trans c02
    clear hK K
    try simp only [Act.put, lz]
    refine qi 7 (by assumption) ?_
    iterate 5 (refine qk rfl (by kernel_rfl) (fun _ _ _ h => h) (by intro w hSw; (try dsimp only at hSw); go_simp; all_goals with_reducible rfl) (by (try simp only [Act.put, lz]); rfl) ?_)
    refine qo ?_
    refine wpAnyH_done (by kernel_rfl) ?_ _
    have H3 := Qh B3
    have hB3s := B3.size
    clear B3 B2 b3 c02 c0 hHeld NM cx
    go_wp2_with fail
    refine RD.out.mono ?_
    rintro e w4 ⟨v4, ts4, rfl, ho4, hts4, hb4, hbb4⟩
    have ho1 := (HO.out.1.below H3.out).below hb4
    have hl4 : ts4.length = r.2.1.length := by rw [← hts4, List.length_map]
    have hob : ∀ q, (Value.slice au ts.length cu).ownBlock = some q → q < wr.heap.size := fun q hq => (HO.out.1.at_base hq).2
    have H4 := Qh (Qa ho1 (Qa ho4 (Qa hts4 (Qa hb4 hbb4))))
    have hbn : ∀ t ∈ ts4, ∀ b o, t.2.1 = some ⟨b, o, none⟩ → some b ≠ (Value.slice au ts.length cu).ownBlock := fun t ht b o e h => by
     have h1 := hbb4 t ht b o e
     have h2 := hob b h.symm
     omega
    have HBN := Qh hbn
    have hww : w.heap.size ≤ w4.heap.size := Nat.le_trans HO.out.2.2.1.size (Nat.le_trans hB3s hb4.size)
    clear ho1 ho4 hts4 hb4 hbb4 hob hbn RD
    go_wp2_with (at_builtin; refine wpList_append_frs rfl (.tmp 38) (.tmp 39) rfl w.heap.size w3.heap.size (.slice au ts.length cu) v4 ts ts4 (by rfl) (by rfl) H4.out.1 H4.out.2.1 HBN.out (by omega) hww ?_; intro v5 w5 ho5 hg5 hat5)
    have hB5 : Below w.heap.size w w5 := ((HO.out.2.2.1.trans (H3.out.mono HO.out.2.2.1.size)).trans (H4.out.2.2.2.1.mono (Nat.le_trans HO.out.2.2.1.size hB3s))).grown hg5 hww (fun q hq => (HO.out.1.at_base hq).1)
    obtain ⟨a5, c5, hv5, _⟩ := ho5.frs
    subst hv5
    have H5 := Qh (Qa ho5 hB5)
    clear ho5 hg5 hat5 hB5
    go_wp2
    go_roundw
    case rel =>
     refine ⟨k + 1, ts ++ ts4, a5, c5, by omega, by go_num, rfl, H5.out.1, ?_, by rw [List.length_append]; omega, H5.out.2, fun t ht b o e => ?_⟩
     · rw [List.map_append, HO.out.2.1, H4.out.2.2.1, HT.out]
     rcases List.mem_append.1 ht with ht | ht
     · exact HO.out.2.2.2.1 t ht b o e
     exact Nat.le_trans HO.out.2.2.1.size (Nat.le_trans hB3s (H4.out.2.2.2.2 t ht b o e))
    case measure => simp [intOf]; omega
  have hkn : k = n := by omega
  subst hkn
  have HO := Qh (Qa ho (Qa hts (Qa hB hbb)))
  clear ho hts hB hbb
  go_wp2
  go_ret
  exact ⟨_, ts, rfl, HO.out.1, by rw [HO.out.2.1, hn, List.take_length]; rfl, HO.out.2.2⟩
end
end
section
open Go.RowKit Go.Sort Go.Maps Go.Shelf
open Crc Frm
open Sgn
attribute [local go_sem] Oper.semAt_some
theorem OwnV.below_ {w w' : World} {base : Nat} {e : TypeId} {v : Value} {us : List Value} (h : OwnV w base e v us) (hb : Below w.heap.size w w') : OwnV w' base e v us :=
 World.ownsRow.kept h (grown_of_below hb none) (by cases hv : v.ownBlock <;> simp)
theorem OwnV.but_ {O : Nat → Prop} {w w' : World} {base : Nat} {e : TypeId} {v : Value} {us : List Value} (h : OwnV w base e v us) (hb : But O w w') (hO : ∀ k, v.ownBlock = some k → ¬ O k) : OwnV w' base e v us := by
 refine ⟨h.1, ?_⟩
 rcases h.2 with h1 | ⟨g, cap, cur, hv, h1, h2, r⟩
 · exact .inl h1
 exact .inr ⟨g, cap, cur, hv, h1, (hb.block g (lt_of_heap h2) (hO g (by rw [hv]; rfl))).trans h2, r⟩
section
variable {w0 w : World} {dp lp size : Nat} {g : Lg} {t : St} {D : Nat → Prop} {sa : Option Addr} {sc : Nat}
theorem goesOn_any (h : LK w0 w dp lp size g t D sa sc) (x : Int) :
 Calls Tryz.prog 141 #[.pointer (some ⟨lp, 0, none⟩), .int .i64 x] w fun e w' => e = .returned (.bool (decide (g.segs.length = 0) || decide (x = g.next))) ∧ w' = w := by
 have c2 := h.at_.c2
 have c3 := h.at_.c3
 clear h
 generalize g.segs.length = n at *
 generalize g.next = y at *
 by_cases h0 : n = 0
 · subst h0
   go_enter Tryz.func141, Tryz.ntmps141
   go_wp2
   go_ret
   exact ⟨rfl, rfl⟩
 have h1 : ((n : Int) == 0) = false := by simp; omega
 by_cases h2 : x = y
 · subst h2
   rw [show (decide (n = 0) || decide (x = x)) = true from by simp]
   go_enter Tryz.func141, Tryz.ntmps141
   go_wp2
   go_ret
   exact ⟨rfl, rfl⟩
 have h3 : (x == y) = false := by simpa using h2
 rw [show (decide (n = 0) || decide (x = y)) = false from by simp [h0, h2]]
 clear h2
 go_enter Tryz.func141, Tryz.ntmps141
 go_wp2
 go_ret
 exact ⟨rfl, rfl⟩
theorem LK.take_ {w4 w5 : World} {a2 : Option Addr} {c2 : Nat} (x y : Int) {B : Nat} (h : LK w0 w4 dp lp size g t D sa sc) (ho : OwnV w4 B 2 (.slice sa g.segs.length sc) (i64V g.segs)) (hD : ∀ k, D k → k < B) (hlp : lp < B) (hB : w0.heap.size ≤ B) (hB4 : B ≤ w4.heap.size)
 (o : Obj) (ho5 : OwnV w5 B 2 (.slice a2 (g.segs ++ [x]).length c2) (i64V (g.segs ++ [x]))) (hg : (w4.alloc o).grownBy w5 (Value.slice sa g.segs.length sc).ownBlock) :
 LK w0 ((w5.setCell ⟨lp, 2, none⟩ (.slice a2 (g.segs ++ [x]).length c2)).setCell ⟨lp, 3, none⟩ (.int .i64 y)) dp lp size ⟨g.segs ++ [x], y⟩ t D a2 c2 ∧
  OwnV ((w5.setCell ⟨lp, 2, none⟩ (.slice a2 (g.segs ++ [x]).length c2)).setCell ⟨lp, 3, none⟩ (.int .i64 y)) B 2 (.slice a2 (g.segs ++ [x]).length c2) (i64V (g.segs ++ [x])) := by
 obtain ⟨w6, hw6⟩ : ∃ w6, w6 = (w5.setCell ⟨lp, 2, none⟩ (.slice a2 (g.segs ++ [x]).length c2)).setCell ⟨lp, 3, none⟩ (.int .i64 y) := ⟨_, rfl⟩
 rw [← hw6]
 have hown : ∀ k, (Value.slice sa g.segs.length sc).ownBlock = some k → B ≤ k := fun k hk => (ho.at_base hk).1
 have hown2 : ∀ k, (Value.slice a2 (g.segs ++ [x]).length c2).ownBlock = some k → B ≤ k ∧ k < w5.heap.size := fun k hk => ho5.at_base hk
 have b56 : But (fun k => k = lp) w5 w6 := by
  rw [hw6]
  exact ((But.refl (fun k => k = lp) w5).setCell (p := ⟨lp, 2, none⟩) (.inl rfl) _).setCell (p := ⟨lp, 3, none⟩) (.inl rfl) _
 have b46 : But (fun k => B ≤ k ∨ k = lp) w4 w6 := by
  refine ((But.of_below (O := fun k => B ≤ k ∨ k = lp) ((Below.refl w4.heap.size w4).alloc Qn o)).trans (But.grown (O := fun k => B ≤ k) hg (fun k hk => hown k hk)) (fun k hk => .inl (.inl hk))).trans b56 (fun k hk => .inl (.inr hk))
 have o6 : OwnV w6 B 2 (.slice a2 (g.segs ++ [x]).length c2) (i64V (g.segs ++ [x])) := ho5.but_ b56 (fun k hk hl => by have := (hown2 k hk).1; omega)
 refine ⟨⟨h.dk.out_ b46 (fun k hk => ?_), ⟨?_, ?_, fun hn => ?_⟩, h.base, h.own, fun k q e => ?_⟩, o6⟩
 · rcases hk with hk | rfl
   · exact ⟨fun hd => by have := hD k hd; omega, by omega⟩
   exact ⟨h.own, h.base⟩
 · have h5 : w5.heap[lp]? = some (.cells #[.pointer (some ⟨dp, 0, none⟩), .int .i64 (size : Int), .slice sa g.segs.length sc, .int .i64 g.next] 77 (0, 0)) := by
    refine (hg.block lp (by simp; omega) (fun e => ?_)).trans ((Below.heap_alloc _ _ _ (by omega)).trans h.at_.blk)
    have := hown lp e.symm
    omega
   rw [hw6]
   have e1 := heap_setCell_same w5 lp 2 _ _ (.slice a2 (g.segs ++ [x]).length c2) h5
   exact heap_setCell_same _ lp 3 _ _ (.int .i64 y) e1
 · obtain ⟨a3, c3, hv, hrow, _⟩ := OwnV.out_ o6
   injection hv with e1 e2 e3
   subst e1 e3
   exact hrow
 · exact OwnV.nil_own o6 _ _ (by rw [hn])
 have h1 := hown2 k (by rw [e]; rfl)
 refine ⟨fun hd => by have := hD k hd; omega, by omega, by omega, ?_⟩
 have := b56.size
 omega
theorem rd_head_le (bs : List Nat) : (rd bs).1 ≤ 1073741824 := by
 unfold rd
 by_cases h : (rh bs).2 ≠ 0
 · rw [if_pos h]; simp
 rw [if_neg h]
 exact (rh_ok bs (by omega)).1
theorem rd_good_le (bs : List Nat) : (rd bs).2.2.1 ≤ bs.length := by
 unfold rd
 by_cases h : (rh bs).2 ≠ 0
 · rw [if_pos h]; simp
 rw [if_neg h]
 have h1 := (rh_ok bs (by omega)).2
 have := scan_le (bs.length + 1) (bs.drop 12) ((rh bs).1 : Int) (by rw [List.length_drop]; omega)
 rw [List.length_drop] at this
 simp only
 omega
def FndL (w0 w : World) (dp lp size : Nat) (t : St) (D : Nat → Prop) (r : Lg × Option (List Nat)) (e : Ending) (w' : World) : Prop :=
 ∃ a m c sa sc, e = .returned (.tuple #[.slice a m c, .bool r.2.isSome]) ∧ Sl w' w'.heap.size a m c (r.2.getD []) ∧ LK w0 w' dp lp size r.1 t D sa sc ∧ But (fun k => k = lp) w w' ∧ (∀ k o, a = some ⟨k, o, none⟩ → w.heap.size ≤ k ∧ k < w'.heap.size) ∧ (∀ k o, sa = some ⟨k, o, none⟩ → w.heap.size ≤ k)
theorem find_any (h : LK w0 w dp lp size ⟨[], 0⟩ t D none 0) (hL : Laid w0) (listed : List Int) (a : Option Addr) (n c : Nat) (hr : Row w w.heap.size a n c 1 (intsC listed)) (hn : listed.length = n) (hn2 : n ≤ 100) (hfar : ∀ k o, a = some ⟨k, o, none⟩ → k ≠ lp) :
 Calls Tryz.prog 81 #[.pointer (some ⟨lp, 0, none⟩), .slice a n c] w (FndL w0 w dp lp size t D (lgFind t listed ⟨[], 0⟩)) := by
 have hrm := hr.max
 have hrl := hr.le
 unfold maxLen at hrm
 have hDlt := h.dk.lt
 have hllt := h.at_.lt
 have hww := h.dk.below.size
 have HR := Qh (Qa hr (Qa hfar (Qa hL hn)))
 have H0 := Qh h
 have o0 : OwnV w w.heap.size 2 (.slice none ([] : List Int).length 0) (i64V []) := OwnV.nil_ _ _ _
 have HO0 := Qh o0
 clear hr hfar hL hn h o0
 go_enter Tryz.func81, Tryz.ntmps81
 go_wp2_with fail
 go_loopw [7, 8, 9, 10, 11, 12, 13, 16, 20, 30] (fun _ _ _ _ _ _ _ i _ _ wr => ∃ (k : Nat) (g' : Lg) (sa' : Option Addr) (sc' : Nat), k ≤ n ∧ i = .int .i64 (k : Int) ∧ LK w0 wr dp lp size g' t D sa' sc' ∧ OwnV wr w.heap.size 2 (.slice sa' g'.segs.length sc') (i64V g'.segs) ∧ But (fun k => k = lp) w wr ∧ g'.segs.length ≤ k ∧ lgFind t (listed.drop k) g' = lgFind t listed ⟨[], 0⟩) (fun _ _ _ _ _ _ _ i _ _ _ => n - (intOf i).toNat)
 case atStart => exact ⟨0, ⟨[], 0⟩, none, 0, Nat.zero_le _, rfl, H0.out, HO0.out, But.refl _ _, Nat.zero_le _, rfl⟩
 case round =>
  obtain ⟨k, g', sa', sc', hk, rfl, hK, ho, hbw, hgl, hfd⟩ := hrel
  by_cases hlt : k < n
  · have hrw := HR.out.1.but hbw (fun _ => HR.out.2.1)
    obtain ⟨b, o, hae, hb, hc⟩ := hrw.at_ (by omega)
    subst hae
    obtain ⟨x, hx⟩ : ∃ x, x = listed.getD k 0 := ⟨_, rfl⟩
    have cx : wr.cell? ⟨b, o + k, none⟩ = some (.int .i64 x) := (hc k (by omega)).trans (by rw [hx])
    have hdrop : listed.drop k = x :: listed.drop (k + 1) := by
     rw [List.drop_eq_getElem_cons (by have := HR.out.2.2.2; omega), hx, List.getD_eq_getElem?_getD, List.getElem?_eq_getElem (by have := HR.out.2.2.2; omega)]
     rfl
    rw [hdrop] at hfd
    have HF : Hid (lgFind t (x :: listed.drop (k + 1)) g' = if (rd (t.bytes (nm x))).2.2.2 ≠ 0 ∨ ((rd (t.bytes (nm x))).1 : Int) ≠ x ∨ ¬ (g'.segs = [] ∨ x = g'.next) then (g', none) else
     if (rd (t.bytes (nm x))).2.2.1 < (t.bytes (nm x)).length then (⟨g'.segs ++ [x], x + ((rd (t.bytes (nm x))).2.1.length : Int)⟩, some ((t.bytes (nm x)).take (rd (t.bytes (nm x))).2.2.1)) else lgFind t (listed.drop (k + 1)) ⟨g'.segs ++ [x], x + ((rd (t.bytes (nm x))).2.1.length : Int)⟩) := rfl
    have c0 := hK.at_.c0
    have hlt0 := hK.at_.lt
    have NM := Qh (fun y (hy : Below wr.heap.size wr y) => name_any x y ((hK.laid HR.out.2.2.1).on hy))
    have hby := Qh (fat_byte hK.dk.good (nm x))
    have hbl := bytes_le hK.dk.good (nm x)
    have HO := Qh (Qa hK (Qa ho (Qa hbw hfd)))
    have hsz := nmS_size x
    clear ho hK hbw hfd hrw hc hx hdrop hb
    go_wp2_with fail
    refine wp_region_held_drew (S := fun x => x.cell? ⟨lp, 0, none⟩ = some (.pointer (some ⟨dp, 0, none⟩))) (by kernel_rfl) c0 (fun hHeld => ?_)
    refine qi 0 (by assumption) ?_
    iterate 5 (refine qk rfl (by kernel_rfl) (fun _ _ _ h => h) (by intro w hSw; (try dsimp only at hSw); go_simp; all_goals with_reducible rfl) (by (try simp only [Act.put, lz]); rfl) ?_)
    refine qo ?_
    refine qr 5 rfl (by kernel_rfl) (fun K hK => ?_)
    rw [if_pos (by rfl)]
    go_simp
    go_at_call 54
    refine (NM.out _ (Below.drew Qb)).mono ?_
    rintro e w2 ⟨rfl, hb2⟩
    have B2 : Below wr.heap.size wr w2 := below_drew_of hb2
    clear hb2
    have c02 := (B2.cell (p := ⟨lp, 0, none⟩) hlt0).trans c0
    refine hK.out _ _ ?_ (fun hHeld => ?_)
    · exact c02
    clear hK K
    try simp only [Act.put, lz]
    refine qr 6 rfl (by kernel_rfl) (fun K hK => ?_)
    rw [if_pos (by rfl)]
    go_simp
    go_at_call 50
    refine ((HO.out.1.on B2).dk.read ⟨(nm x).toArray⟩ (by unfold maxLen; omega)).mono ?_
    rintro e w3 hN
    change NewBytes w2 (t.bytes (nm x)) (fat t.D (nm x)).isSome _ _ at hN
    change Hid (∀ c ∈ t.bytes (nm x), c < 256) at hby
    generalize (fat t.D (nm x)).isSome = is at *
    have hrd := rd_many (t.bytes (nm x))
    have hrh := rd_head_le (t.bytes (nm x))
    have hrg := rd_good_le (t.bytes (nm x))
    obtain ⟨bs, hbs⟩ : ∃ bs, bs = t.bytes (nm x) := ⟨_, rfl⟩
    rw [← hbs] at hN hby hrd hrh hrg HF hbl
    obtain ⟨a3, n3, rfl, s3, hb3a, b3⟩ := NewBytes.out (HO.out.1.on B2).dk hN hby.out
    have B3 := B2.trans (b3.mono B2.size)
    have RD := Qh (segRead_anyB a3 bs.length n3 bs w3 s3 (by omega))
    have HB3 := Qh (Qa s3 (Qa hb3a b3.size))
    have HWR := Qh B2.size
    obtain ⟨⟨f, fs, m, er⟩, hr9⟩ : ∃ r, r = rd bs := ⟨_, rfl⟩
    rw [← hr9] at RD HF hrd hrh hrg
    simp only at RD hrd hrh hrg
    obtain ⟨q, hq⟩ : ∃ q, q = bs.length := ⟨_, rfl⟩
    have hle3 := s3.le
    have hmx3 := s3.max
    unfold maxLen at hmx3
    rw [← hq] at RD hrd hrg hbl hle3 HF ⊢
    have HQ := Qh (Qa hq hbs)
    clear s3 hN hby hr9 hq hbs hb3a
    refine hK.out _ _ ?_ (fun hHeld => ?_)
    · exact (b3.cell (p := ⟨lp, 0, none⟩) (Nat.lt_of_lt_of_le hlt0 B2.size)).trans c02
    clear hK K
    try simp only [Act.put, lz]
    refine qi 7 (by assumption) ?_
    iterate 5 (refine qk rfl (by kernel_rfl) (fun _ _ _ h => h) (by intro w hSw; (try dsimp only at hSw); go_simp; all_goals with_reducible rfl) (by (try simp only [Act.put, lz]); rfl) ?_)
    refine qo ?_
    refine wpAnyH_done (by kernel_rfl) ?_ _
    have H3 := Qh B3
    clear B3 B2 b3 c02 c0 hHeld NM cx
    go_wp2_with fail
    refine RD.out.mono ?_
    rintro e w4 ⟨v4, ts4, rfl, ho4, hts4, hb4, hbb4⟩
    obtain ⟨a4, c4, hv4, _⟩ := ho4.frs
    have hl4 : ts4.length = fs.length := by rw [← hts4, List.length_map]
    rw [hl4] at hv4
    subst hv4
    clear ho4 hbb4 hts4 hl4 RD
    obtain ⟨fl, hfl⟩ : ∃ fl, fl = fs.length := ⟨_, rfl⟩
    rw [← hfl] at hrd ⊢
    try simp only at HF
    rw [← hfl] at HF
    have HW := Qh hfl
    clear hfl
    have hB4 := H3.out.trans (hb4.mono H3.out.size)
    have K4 := HO.out.1.on hB4
    have O4 := HO.out.2.1.below_ hB4
    have GO := Qh (goesOn_any K4 x)
    have W4 := HO.out.2.2.1.trans (But.of_below (O := fun _ => False) hB4) (fun _ hf => hf.elim)
    have H4 := Qh (Qa K4 (Qa O4 (Qa W4 hb4)))
    have lc2 := K4.at_.c2
    clear hb4 hB4 K4 O4 W4
    have hno : Hid ((er ≠ 0 ∨ (f : Int) ≠ x ∨ ¬ (g'.segs = [] ∨ x = g'.next)) → FndL w0 w dp lp size t D (lgFind t listed ⟨[], 0⟩) (.returned (.tuple #[.slice none 0 0, .bool false])) w4) := by
     intro h1
     have h2 := HO.out.2.2.2
     rw [HF.out, if_pos h1] at h2
     rw [← h2]
     exact ⟨none, 0, 0, sa', sc', rfl, Sl.nil_, H4.out.1, H4.out.2.2.1, fun k o e => (by cases e), fun k o e => (H4.out.2.1.at_base (by rw [e]; rfl)).1⟩
    by_cases h1 : er = 0
    · by_cases h2 : (f : Int) = x
      · by_cases h3 : g'.segs = [] ∨ x = g'.next
        · have h3b : (decide (g'.segs.length = 0) || decide (x = g'.next)) = true := by
           rcases h3 with h3 | h3 <;> simp [h3]
          rw [h3b] at GO
          have h1' : ((er : Int) != 0) = false := by simp [h1]
          have h2' : ((f : Int) != x) = false := by simpa using h2
          have HF2 := Qh (HF.out.trans (if_neg (by rintro (h | h | h); exact h h1; exact h h2; exact h h3)))
          have hw : IntKind.i64.wrap (x + (fl : Int)) = x + (fl : Int) := by rw [IntKind.wrap_i64]; omega
          obtain ⟨N, hN⟩ : ∃ N, N = (g'.segs ++ [x]).length := ⟨_, rfl⟩
          have HN := Qh hN
          have OA : Hid (∀ o, OwnV (w4.alloc o) w.heap.size 2 (.slice sa' g'.segs.length sc') (i64V g'.segs)) := fun o => H4.out.2.1.alloc o
          have hz4 : w.heap.size ≤ w4.heap.size := H4.out.2.2.1.size
          have HSZ : Hid (w.heap.size ≤ (w4.alloc (.cells #[.int .i64 x] 2)).heap.size) := by show _ ≤ _; simp; omega
          have LB : Hid (∀ w6, (w4.alloc (.cells #[.int .i64 x] 2)).grownBy w6 (Value.slice sa' g'.segs.length sc').ownBlock → w6.heap[lp]? = some (.cells #[.pointer (some ⟨dp, 0, none⟩), .int .i64 (size : Int), .slice sa' g'.segs.length sc', .int .i64 g'.next] 77 (0, 0))) := fun w6 hg => by
           refine (hg.block lp (by simp; omega) (fun e => ?_)).trans ((Below.heap_alloc _ _ _ (by omega)).trans H4.out.1.at_.blk)
           have := (H4.out.2.1.at_base e.symm).1
           omega
          have HT : Hid (∀ w6 a6 c6, OwnV w6 w.heap.size 2 (.slice a6 N c6) (i64V (g'.segs ++ [x])) → (w4.alloc (.cells #[.int .i64 x] 2)).grownBy w6 (Value.slice sa' g'.segs.length sc').ownBlock →
           (LK w0 ((w6.setCell ⟨lp, 2, none⟩ (.slice a6 N c6)).setCell ⟨lp, 3, none⟩ (.int .i64 (x + (fl : Int)))) dp lp size ⟨g'.segs ++ [x], x + (fl : Int)⟩ t D a6 c6 ∧
           OwnV ((w6.setCell ⟨lp, 2, none⟩ (.slice a6 N c6)).setCell ⟨lp, 3, none⟩ (.int .i64 (x + (fl : Int)))) w.heap.size 2 (.slice a6 (g'.segs ++ [x]).length c6) (i64V (g'.segs ++ [x]))) ∧
           But (fun k => k = lp) w ((w6.setCell ⟨lp, 2, none⟩ (.slice a6 N c6)).setCell ⟨lp, 3, none⟩ (.int .i64 (x + (fl : Int)))) ∧
           Sl ((w6.setCell ⟨lp, 2, none⟩ (.slice a6 N c6)).setCell ⟨lp, 3, none⟩ (.int .i64 (x + (fl : Int)))) ((w6.setCell ⟨lp, 2, none⟩ (.slice a6 N c6)).setCell ⟨lp, 3, none⟩ (.int .i64 (x + (fl : Int)))).heap.size a3 bs.length n3 bs) := fun w6 a6 c6 ho6 hg6 => by
           rw [hN] at ho6 ⊢
           have hb0 : ∀ k, (Value.slice sa' g'.segs.length sc').ownBlock = some k → w.heap.size ≤ k ∧ k < wr.heap.size := fun k hk => HO.out.2.1.at_base hk
           refine ⟨LK.take_ x (x + (fl : Int)) H4.out.1 H4.out.2.1 (fun k hk => hDlt k hk) hllt hww hz4 (.cells #[.int .i64 x] 2) ho6 hg6, ?_, ?_⟩
           · refine ((H4.out.2.2.1.trans (But.of_below (O := fun _ => False) ((Below.refl w4.heap.size w4).alloc Qn _)) (fun _ hf => hf.elim)).trans (But.grown (O := fun k => w.heap.size ≤ k) hg6 (fun k hk => (hb0 k hk).1)) (fun k hk => .inr hk)).trans (((But.refl (fun k => k = lp) w6).setCell (p := ⟨lp, 2, none⟩) (.inl rfl) _).setCell (p := ⟨lp, 3, none⟩) (.inl rfl) _) (fun k hk => .inl hk)
           have s4 := (HB3.out.1.below H4.out.2.2.2 Qn).more H4.out.2.2.2.size
           have s5 := (s4.below ((Below.refl w4.heap.size w4).alloc Qn (.cells #[.int .i64 x] 2)) Qn).more (B' := (w4.alloc (.cells #[.int .i64 x] 2)).heap.size) (by simp)
           have hfar3 : 0 < bs.length → ∀ b o, a3 = some ⟨b, o, none⟩ → wr.heap.size ≤ b := fun hp b o e => Nat.le_trans HWR.out (HB3.out.2.1 hp b o e).2
           have s6 := s5.kept hg6 (fun hp b o e h => by have h1 := hfar3 hp b o e; have h2 := hb0 b h.symm; omega)
           have s7 := (s6.far ⟨lp, 2, none⟩ (.slice a6 (g'.segs ++ [x]).length c6) (fun hp b o e h => by have h1 := hfar3 hp b o e; have h2 : b = lp := h; omega)).far ⟨lp, 3, none⟩ (.int .i64 (x + (fl : Int))) (fun hp b o e h => by have h1 := hfar3 hp b o e; have h2 : b = lp := h; omega)
           exact s7.more (by simpa using hg6.size)
          clear h3 h3b hno HF h1 h2 hN
          have hgl' : g'.segs.length + 1 ≤ 200 := by omega
          by_cases hm : m < q
          · have c1 : ∀ w, (Instr.slice 38 (.slice a3 q n3) none (some (.int .i64 (m : Int))) none).run Tryz.prog w = .ok (.slice a3 m n3) w := run_cut_to (P := Tryz.prog) 38 5 Tryz.underlying38 info_u8 a3 q n3 m (by omega)
            have hmq : (m : Int) < (q : Int) := by omega
            go_wp2_with fail
            refine GO.out.mono ?_
            rintro e w5 ⟨rfl, hw5⟩
            have hw5 := hw5.symm
            subst hw5
            clear GO
            go_wp2_with (at_builtin; refine wpList_append_ints rfl (.tmp 54) (.tmp 56) 50 rfl w.heap.size _ Tryz.underlying50 info_i64L (.slice sa' g'.segs.length sc') g'.segs (by rfl) (OA.out _) _ (some ⟨w4.heap.size, 0, none⟩) 1 1 [x] (by rfl) (row_lit1 (heap_alloc_new w4 _)) rfl (fun h => by cases h) (by omega) HSZ.out ?_; intro v6 w6 ho6 hg6 hat6; obtain ⟨a6, c6, hv6, hr6, _⟩ := OwnV.out_ ho6; rw [← HN.out] at hv6; subst hv6; have blk6 := LB.out w6 hg6; have lc26 := (cell_of_row w6 lp 2 _ _ _ blk6).trans rfl; have lc36 := (cell_of_row w6 lp 3 _ _ _ blk6).trans rfl; have lz26 := frozen_of_row w6 lp 2 _ _ blk6; have lz36 := frozen_of_row w6 lp 3 _ _ blk6; have H6 := Qh (Qa ho6 hg6); clear ho6 hg6 hat6 hr6 blk6)
            go_ret2
            obtain ⟨⟨k7, o7⟩, b7, s7⟩ := HT.out w6 a6 c6 (HN.out ▸ H6.out.1) H6.out.2
            have h2 := HO.out.2.2.2
            rw [HF2.out, if_pos hm] at h2
            rw [← h2]
            refine ⟨a3, m, n3, a6, c6, rfl, s7.take (by have := HQ.out.1; omega), k7, b7, fun k o e => ?_, fun k o e => (o7.at_base (by rw [e]; rfl)).1⟩
            have hp : 0 < bs.length := by have := HQ.out.1; omega
            have h8 := (HB3.out.2.1 hp k o e).2
            have h9 := HWR.out
            have hA := HO.out.2.2.1.size
            obtain ⟨b8, o8, e8, hb8, _⟩ := s7.at_ hp
            rw [e] at e8
            injection e8 with e8
            injection e8 with e8
            subst e8
            exact ⟨by omega, hb8⟩
          have hmq : (q : Int) ≤ (m : Int) := by omega
          go_wp2_with fail
          refine GO.out.mono ?_
          rintro e w5 ⟨rfl, hw5⟩
          have hw5 := hw5.symm
          subst hw5
          clear GO
          go_wp2_with (at_builtin; refine wpList_append_ints rfl (.tmp 54) (.tmp 56) 50 rfl w.heap.size _ Tryz.underlying50 info_i64L (.slice sa' g'.segs.length sc') g'.segs (by rfl) (OA.out _) _ (some ⟨w4.heap.size, 0, none⟩) 1 1 [x] (by rfl) (row_lit1 (heap_alloc_new w4 _)) rfl (fun h => by cases h) (by omega) HSZ.out ?_; intro v6 w6 ho6 hg6 hat6; obtain ⟨a6, c6, hv6, hr6, _⟩ := OwnV.out_ ho6; rw [← HN.out] at hv6; subst hv6; have blk6 := LB.out w6 hg6; have lc26 := (cell_of_row w6 lp 2 _ _ _ blk6).trans rfl; have lc36 := (cell_of_row w6 lp 3 _ _ _ blk6).trans rfl; have lz26 := frozen_of_row w6 lp 2 _ _ blk6; have lz36 := frozen_of_row w6 lp 3 _ _ blk6; have H6 := Qh (Qa ho6 hg6); clear ho6 hg6 hat6 hr6 blk6)
          go_roundw
          case rel =>
           obtain ⟨⟨k7, o7⟩, b7, s7⟩ := HT.out w6 a6 c6 (HN.out ▸ H6.out.1) H6.out.2
           have h2 := HO.out.2.2.2
           rw [HF2.out, if_neg hm] at h2
           exact ⟨k + 1, ⟨g'.segs ++ [x], x + (fl : Int)⟩, a6, c6, by omega, by go_num, k7, o7, b7, by simp; omega, h2⟩
          case measure => simp [intOf]; omega
        have h3b : (decide (g'.segs.length = 0) || decide (x = g'.next)) = false := by
         rw [Bool.or_eq_false_iff]
         refine ⟨decide_eq_false fun h => h3 (.inl (List.eq_nil_of_length_eq_zero h)), decide_eq_false fun h => h3 (.inr h)⟩
        rw [h3b] at GO
        have HN := Qh (hno.out (.inr (.inr h3)))
        have h1' : ((er : Int) != 0) = false := by simp [h1]
        have h2' : ((f : Int) != x) = false := by simpa using h2
        clear h3 h3b hno HF h1 h2
        go_wp2_with fail
        refine GO.out.mono ?_
        rintro e w5 ⟨rfl, rfl⟩
        go_wp2
        go_ret2
        exact HN.out
      have HN := Qh (hno.out (.inr (.inl h2)))
      have h1' : ((er : Int) != 0) = false := by simp [h1]
      have h2' : ((f : Int) != x) = true := by simpa using h2
      clear hno HF h1 h2
      go_wp2
      go_ret2
      exact HN.out
    have HN := Qh (hno.out (.inl h1))
    have h1' : ((er : Int) != 0) = true := by simp; omega
    clear hno HF h1
    go_wp2
    go_ret2
    exact HN.out
  have hkn : k = n := by omega
  subst hkn
  have HE := Qh (Qa hK (Qa ho (Qa hbw hfd)))
  clear hK ho hbw hfd
  go_wp2
  go_ret2
  have h1 := HE.out.2.2.2
  rw [List.drop_of_length_le (by have := HR.out.2.2.2; omega)] at h1
  rw [← h1]
  refine ⟨none, 0, 0, sa', sc', rfl, Sl.nil_, HE.out.1, HE.out.2.2.1, fun k o e => (by cases e), fun k o e => (HE.out.2.1.at_base (by rw [e]; rfl)).1⟩
end
end
section
open Go.RowKit Go.Sort Go.Maps Go.Shelf
open Crc Frm
open Sgn
attribute [local go_sem] Oper.semAt_some
section
variable {w0 w : World} {dp lp size : Nat} {g : Lg} {t : St} {D : Nat → Prop} {sa : Option Addr} {sc : Nat}
theorem rest1_any (h : LK w0 w dp lp size g t D sa sc) (bl : Nat) (hl : w.cell? ⟨bl, 0, none⟩ = some (.pointer (some ⟨lp, 0, none⟩))) (hL : Laid w0) (hlen : g.segs.length ≤ 1000) :
 Calls Tryz.prog 83 #[.pointer (some ⟨bl, 0, none⟩)] w fun e w' => e = .returned (.int .i64 (lgLay g t 0).1) ∧ LMv w0 w dp lp size (lO D lp sa) (lgLay g t 0).2.2 (lgLay g t 0).2.1 w' := by
 have LY := Qh (lglay_any h 0 hL hlen)
 clear h hL hlen
 generalize lgLay g t 0 = r at *
 go_enter Tryz.func83, Tryz.ntmps83
 go_wp2_with fail
 refine LY.out.mono ?_
 rintro e w2 ⟨rfl, hm⟩
 have HM := Qh hm
 clear hm LY
 go_wp2
 go_ret
 exact ⟨rfl, HM.out⟩
theorem rest2_any (h : LK w0 w dp lp size g t D sa sc) (bl bi : Nat) (hl : w.cell? ⟨bl, 0, none⟩ = some (.pointer (some ⟨lp, 0, none⟩))) (a : Option Addr) (n c : Nat) (hi : w.cell? ⟨bi, 0, none⟩ = some (.slice a n c)) (hlen : g.segs.length ≤ 1000) (hli : n ≤ 1000) :
 Calls Tryz.prog 85 #[.pointer (some ⟨bl, 0, none⟩), .pointer (some ⟨bi, 0, none⟩)] w fun e w' => e = .returned (.int .i64 (lgList g n t).1) ∧ Mv w0 w dp D (lgList g n t).2 w' := by
 have LY := Qh (listGood_any h n hlen hli)
 clear h hlen
 generalize lgList g n t = r at *
 go_enter Tryz.func85, Tryz.ntmps85
 go_wp2_with fail
 refine LY.out.mono ?_
 rintro e w2 ⟨rfl, hm⟩
 have HM := Qh hm
 clear hm LY
 go_wp2
 go_ret
 exact ⟨rfl, HM.out⟩
theorem rest3_any (h : LK w0 w dp lp size g t D sa sc) (bl bg bt : Nat) (hl : w.cell? ⟨bl, 0, none⟩ = some (.pointer (some ⟨lp, 0, none⟩))) (hne : g.segs ≠ []) (good : Option (List Nat)) (a : Option Addr) (n c : Nat) (hg : w.cell? ⟨bg, 0, none⟩ = some (.slice a n c)) (ht : w.cell? ⟨bt, 0, none⟩ = some (.bool good.isSome)) (hr : Sl w w.heap.size a n c (good.getD [])) (hn : n ≤ 100000000) (hfar : ∀ k o, a = some ⟨k, o, none⟩ → ¬ D k ∧ k < w.heap.size) (hL : Laid w0) :
 Calls Tryz.prog 87 #[.pointer (some ⟨bl, 0, none⟩), .pointer (some ⟨bg, 0, none⟩), .pointer (some ⟨bt, 0, none⟩)] w fun e w' => e = .returned (.int .i64 (lgMend g good t).1) ∧ Mv w0 w dp D (lgMend g good t).2 w' := by
 have LY := Qh (mend_any h hne good a n c hr hn hfar hL)
 clear h hne hr hfar hL
 generalize lgMend g good t = r at *
 generalize good.isSome = q at *
 go_enter Tryz.func87, Tryz.ntmps87
 go_wp2_with fail
 refine LY.out.mono ?_
 rintro e w2 ⟨rfl, hm⟩
 have HM := Qh hm
 clear hm LY
 go_wp2
 go_ret
 exact ⟨rfl, HM.out⟩
end
end
section
open Go.RowKit Go.Sort Go.Maps Go.Shelf
open Crc Frm
open Sgn
attribute [local go_sem] Oper.semAt_some
theorem thenSt_ne (r : Int × St) (f : St → Int × St) (h : r.1 ≠ 0) : thenSt r f = r := if_pos h
theorem thenSt_eq (r : Int × St) (f : St → Int × St) (h : r.1 = 0) : thenSt r f = f r.2 := if_neg (by simp [h])
theorem there_two (t : St) (s u : List UInt8) : delAll (thereN t [] [s, u]) t = thenSt (t.drop s) fun t => t.drop u := by
 show delAll (if t.has s = true then s :: thereN t [s] [u] else thereN t [] [u]) t = _
 by_cases h : t.has s = true
 · have e1 : t.drop s = t.delete s := if_pos h
   rw [if_pos h, e1]
   show thenSt (t.delete s) (delAll (thereN t [s] [u])) = _
   by_cases h0 : (t.delete s).1 = 0
   · rw [thenSt_eq _ _ h0, thenSt_eq _ _ h0]
     exact there_one (t.delete s).2 u
   rw [thenSt_ne _ _ h0, thenSt_ne _ _ h0]
 have e1 : t.drop s = (0, t) := if_neg h
 rw [if_neg h, e1, thenSt_eq _ _ rfl]
 exact there_one t u
def restASS : List (Lg × St → Int × (Lg × St)) := [fun s => ((lgClean s.1 s.2).1, (s.1, (lgClean s.1 s.2).2)), fun s => ((lgLay s.1 s.2 0).1, ((lgLay s.1 s.2 0).2.2, (lgLay s.1 s.2 0).2.1))]
theorem restASS_is (g : Lg) (t : St) : turnS restASS (g, t) = if (lgClean g t).1 ≠ 0 then ((lgClean g t).1, (g, (lgClean g t).2)) else ((lgLay g (lgClean g t).2 0).1, ((lgLay g (lgClean g t).2 0).2.2, (lgLay g (lgClean g t).2 0).2.1)) := by
 unfold restASS turnS
 simp only
 by_cases h : (lgClean g t).1 ≠ 0
 · rw [if_pos h, if_pos h]
 rw [if_neg h, if_neg h]
 unfold turnS
 simp only
 split
 · rfl
 rename_i h1
 rw [Decidable.not_not] at h1
 exact Prod.ext h1.symm rfl
theorem turnS_thens {σ : Type} (f : σ → Int × σ) (l : List (σ → Int × σ)) (s : σ) (h : (f s).1 = 0) : turnS (f :: l) s = turnS l (f s).2 := if_neg (by simp [h])
theorem turnS_stop {σ : Type} (f : σ → Int × σ) (l : List (σ → Int × σ)) (s : σ) (h : (f s).1 ≠ 0) : turnS (f :: l) s = f s := if_pos h
theorem turnS_last {σ : Type} (f : σ → Int × σ) (s : σ) : turnS [f] s = f s := by
 unfold turnS
 split
 · rfl
 rename_i h
 rw [Decidable.not_not] at h
 exact Prod.ext h.symm rfl
def restBSS (g : Lg) (n : Nat) (good : Option (List Nat)) : List (St → Int × St) := [lgList g n, lgMend g good, lgClean g, lgSync g]
theorem restBSS_is (g : Lg) (n : Nat) (good : Option (List Nat)) (t : St) : turnS (restBSS g n good) t = thenSt (thenSt (thenSt (lgList g n t) (lgMend g good)) (lgClean g)) (lgSync g) := by
 unfold restBSS
 by_cases h1 : (lgList g n t).1 = 0
 · rw [turnS_thens _ _ _ h1, thenSt_eq _ _ h1]
   by_cases h2 : (lgMend g good (lgList g n t).2).1 = 0
   · rw [turnS_thens _ _ _ h2, thenSt_eq _ _ h2]
     by_cases h3 : (lgClean g (lgMend g good (lgList g n t).2).2).1 = 0
     · rw [turnS_thens _ _ _ h3, thenSt_eq _ _ h3, turnS_last]
     rw [turnS_stop _ _ _ h3, thenSt_ne _ _ h3]
   rw [turnS_stop _ _ _ h2, thenSt_ne _ _ h2, thenSt_ne _ _ h2]
 rw [turnS_stop _ _ _ h1, thenSt_ne _ _ h1, thenSt_ne _ _ h1, thenSt_ne _ _ h1]
section
variable {w0 w : World} {dp lp size : Nat} {g : Lg} {t : St} {D : Nat → Prop} {sa : Option Addr} {sc : Nat}
abbrev raF : Nat → FuncId
 | 0 => 82
 | _ => 83
abbrev raP (lp : Nat) : Nat → Array Value
 | 0 => #[.pointer (some ⟨lp, 0, none⟩)]
 | _ => #[]
abbrev raC (bl : Nat) : Nat → Array Value
 | 0 => #[]
 | _ => #[.pointer (some ⟨bl, 0, none⟩)]
theorem restsA_any (h : LK w0 w dp lp size g t D sa sc) (bl gb : Nat) (hl : w.cell? ⟨bl, 0, none⟩ = some (.pointer (some ⟨lp, 0, none⟩))) (hbl : ¬ lO D lp sa bl) (hL : Laid w0) (hlen : g.segs.length ≤ 1000)
 (hgb : ¬ lO D lp sa gb) (hc : ∀ k, k < 2 → w.cell? ⟨gb, k, none⟩ = some (.func (.func (raF k)) (raP lp k) (raC bl k))) :
 Calls Tryz.prog 31 #[.slice (some ⟨gb, 0, none⟩) 2 2] w fun e w' => e = .returned (.int .i64 (turnS restASS (g, t)).1) ∧ LMv w0 w dp lp size (lO D lp sa) (turnS restASS (g, t)).2.1 (turnS restASS (g, t)).2.2 w' := by
 have hll : bl < w.heap.size := block_lt_of_cell hl
 have hgl : gb < w.heap.size := block_lt_of_cell (hc 0 (by omega))
 have k2 : ∀ x : World, (callFunc 82 (raP lp 0 ++ raC bl 0)).run Tryz.prog x = .ok (.enter 82 (raP lp 0 ++ raC bl 0)) x := fun x => by kernel_rfl
 have k3 : ∀ x : World, (callFunc 83 (raP lp 1 ++ raC bl 1)).run Tryz.prog x = .ok (.enter 83 (raP lp 1 ++ raC bl 1)) x := fun x => by kernel_rfl
 refine (lturnK_any restASS 2 rfl raF (raP lp) (raC bl) gb w (fun k s w' => (k ≤ 1 → s.1 = g) ∧ LMv w0 w dp lp size (lO D lp sa) s.1 s.2 w') (g, t) (by omega) ?_ ?_ ?_ ⟨fun _ => rfl, h.still Qb⟩).mono fun e w' ⟨he, _, _, hm⟩ => ⟨he, hm⟩
 · rintro k s w' hk ⟨_, D', sa', sc', _, hb, _⟩
   exact (hb.cell hgl hgb).trans (hc k hk)
 · intro k x hk
   match k, hk with
   | 0, _ => exact k2 x
   | 1, _ => exact k3 x
 rintro k f s w' hf ⟨hg, D', sa', sc', hk1, hb, hO⟩
 have d1 := (hb.cell (o := 0) hll hbl).trans hl
 match k, hf with
 | 0, hf =>
  injection hf with hf; subst hf
  obtain ⟨g', t'⟩ := s
  have e : g' = g := hg (by omega)
  subst e
  exact (deleteStray_any hk1 hL).mono fun e w'' ⟨he, hm⟩ => ⟨he, fun _ => rfl, LMv.then hb hO (hk1.mv hm)⟩
 | 1, hf =>
  injection hf with hf; subst hf
  obtain ⟨g', t'⟩ := s
  have e : g' = g := hg (by omega)
  subst e
  exact (rest1_any hk1 bl d1 hL hlen).mono fun e w'' ⟨he, hm⟩ => ⟨he, fun h => absurd h (by omega), LMv.then hb hO hm⟩
 | k + 2, hf => simp [restASS] at hf
abbrev rbF : Nat → FuncId
 | 0 => 85
 | 1 => 87
 | 2 => 82
 | _ => 26
abbrev rbP (lp : Nat) : Nat → Array Value
 | 0 => #[]
 | 1 => #[]
 | _ => #[.pointer (some ⟨lp, 0, none⟩)]
abbrev rbC (bl bi bg bt : Nat) : Nat → Array Value
 | 0 => #[.pointer (some ⟨bl, 0, none⟩), .pointer (some ⟨bi, 0, none⟩)]
 | 1 => #[.pointer (some ⟨bl, 0, none⟩), .pointer (some ⟨bg, 0, none⟩), .pointer (some ⟨bt, 0, none⟩)]
 | _ => #[]
theorem restsB_any (h : LK w0 w dp lp size g t D sa sc) (hne : g.segs ≠ []) (bl bi bg bt gb : Nat) (hl : w.cell? ⟨bl, 0, none⟩ = some (.pointer (some ⟨lp, 0, none⟩))) (hbl : ¬ lO D lp sa bl)
 (ai : Option Addr) (ni ci : Nat) (hi : w.cell? ⟨bi, 0, none⟩ = some (.slice ai ni ci)) (hbi : ¬ lO D lp sa bi) (hni : ni ≤ 1000)
 (good : Option (List Nat)) (a : Option Addr) (n c : Nat) (hg : w.cell? ⟨bg, 0, none⟩ = some (.slice a n c)) (hbg : ¬ lO D lp sa bg) (ht : w.cell? ⟨bt, 0, none⟩ = some (.bool good.isSome)) (hbt : ¬ lO D lp sa bt)
 (hr : Sl w w.heap.size a n c (good.getD [])) (hn : n ≤ 100000000) (hfar : ∀ k o, a = some ⟨k, o, none⟩ → ¬ D k ∧ k < w.heap.size) (hL : Laid w0) (hlen : g.segs.length ≤ 1000)
 (hgb : ¬ lO D lp sa gb) (hc : ∀ k, k < 4 → w.cell? ⟨gb, k, none⟩ = some (.func (.func (rbF k)) (rbP lp k) (rbC bl bi bg bt k))) :
 Calls Tryz.prog 31 #[.slice (some ⟨gb, 0, none⟩) 4 4] w fun e w' => e = .returned (.int .i64 (turnS (restBSS g ni good) t).1) ∧ LMv w0 w dp lp size (lO D lp sa) g (turnS (restBSS g ni good) t).2 w' := by
 have hll : bl < w.heap.size := block_lt_of_cell hl
 have hil : bi < w.heap.size := block_lt_of_cell hi
 have hggl : bg < w.heap.size := block_lt_of_cell hg
 have htl : bt < w.heap.size := block_lt_of_cell ht
 have hgl : gb < w.heap.size := block_lt_of_cell (hc 0 (by omega))
 have k2 : ∀ x : World, (callFunc 85 (rbP lp 0 ++ rbC bl bi bg bt 0)).run Tryz.prog x = .ok (.enter 85 (rbP lp 0 ++ rbC bl bi bg bt 0)) x := fun x => by kernel_rfl
 have k3 : ∀ x : World, (callFunc 87 (rbP lp 1 ++ rbC bl bi bg bt 1)).run Tryz.prog x = .ok (.enter 87 (rbP lp 1 ++ rbC bl bi bg bt 1)) x := fun x => by kernel_rfl
 have k4 : ∀ x : World, (callFunc 82 (rbP lp 2 ++ rbC bl bi bg bt 2)).run Tryz.prog x = .ok (.enter 82 (rbP lp 2 ++ rbC bl bi bg bt 2)) x := fun x => by kernel_rfl
 have k5 : ∀ x : World, (callFunc 26 (rbP lp 3 ++ rbC bl bi bg bt 3)).run Tryz.prog x = .ok (.enter 26 (rbP lp 3 ++ rbC bl bi bg bt 3)) x := fun x => by kernel_rfl
 have nO : ∀ k, ¬ lO D lp sa k → ¬ D k := fun k hn hd => hn (.inl hd)
 refine (lturnK_any (restBSS g ni good) 4 rfl rbF (rbP lp) (rbC bl bi bg bt) gb w (fun k t' w' => LMv w0 w dp lp size (lO D lp sa) g t' w' ∧ (k ≤ 3 → Mv w0 w dp D t' w')) t (by omega) ?_ ?_ ?_ ⟨h.still Qb, fun _ => Mv.still h.dk Qb⟩).mono fun e w' ⟨he, _, hm, _⟩ => ⟨he, hm⟩
 · rintro k s w' hk ⟨⟨D', sa', sc', _, hb, _⟩, _⟩
   exact (hb.cell hgl hgb).trans (hc k hk)
 · intro k x hk
   match k, hk with
   | 0, _ => exact k2 x
   | 1, _ => exact k3 x
   | 2, _ => exact k4 x
   | 3, _ => exact k5 x
 rintro k f s w' hf' ⟨_, hmv⟩
 match k, hf' with
 | 0, hf' =>
  injection hf' with hf'; subst hf'
  obtain ⟨D', hk0, hb, hD⟩ := hmv (by omega)
  have hK := h.but hk0 hb hD
  refine (rest2_any hK bl bi ((hb.cell (o := 0) hll (nO _ hbl)).trans hl) ai ni ci ((hb.cell (o := 0) hil (nO _ hbi)).trans hi) hlen hni).mono fun e w'' ⟨he, hm⟩ => ?_
  have h2 := Mv.then hb hD hm
  exact ⟨he, h.mv h2, fun _ => h2⟩
 | 1, hf' =>
  injection hf' with hf'; subst hf'
  obtain ⟨D', hk0, hb, hD⟩ := hmv (by omega)
  have hK := h.but hk0 hb hD
  have hs' : Sl w' w'.heap.size a n c (good.getD []) := hr.same_ hb.size (fun hp k o e => hb.block k (hfar k o e).2 (hfar k o e).1)
  refine (rest3_any hK bl bg bt ((hb.cell (o := 0) hll (nO _ hbl)).trans hl) hne good a n c ((hb.cell (o := 0) hggl (nO _ hbg)).trans hg) ((hb.cell (o := 0) htl (nO _ hbt)).trans ht) hs' hn (fun k o e => ⟨fun hd => ?_, ?_⟩) hL).mono fun e w'' ⟨he, hm⟩ => ?_
  · rcases hD k hd with h4 | h4
    · exact (hfar k o e).1 h4
    have := (hfar k o e).2; omega
  · exact Nat.lt_of_lt_of_le (hfar k o e).2 hb.size
  have h2 := Mv.then hb hD hm
  exact ⟨he, h.mv h2, fun _ => h2⟩
 | 2, hf' =>
  injection hf' with hf'; subst hf'
  obtain ⟨D', hk0, hb, hD⟩ := hmv (by omega)
  have hK := h.but hk0 hb hD
  refine (deleteStray_any hK hL).mono fun e w'' ⟨he, hm⟩ => ?_
  have h2 := Mv.then hb hD hm
  exact ⟨he, h.mv h2, fun _ => h2⟩
 | 3, hf' =>
  injection hf' with hf'; subst hf'
  obtain ⟨D', hk0, hb, hD⟩ := hmv (by omega)
  have hK := h.but hk0 hb hD
  refine (lsync_any hK hne hL).mono fun e w'' ⟨he, hm⟩ => ⟨he, LMv.then (hb.more fun _ hk => .inl hk) (fun k hk => ?_) hm, fun h => absurd h (by omega)⟩
  rcases hk with h1 | h1
  · rcases hD k h1 with h4 | h4
    · exact .inl (.inl h4)
    exact .inr h4
  exact .inl (.inr h1)
 | k + 4, hf' => simp [restBSS] at hf'
end
end
section
open Go.RowKit Go.Sort Go.Maps Go.Shelf
open Crc Frm
open Sgn
attribute [local go_sem] Oper.semAt_some
theorem lgFind_len (t : St) : ∀ (l : List Int) (g : Lg), (lgFind t l g).1.segs.length ≤ g.segs.length + l.length
 | [], g => by simp [lgFind]
 | x :: l, g => by
  unfold lgFind
  simp only
  split
  · simp
  split
  · simp
  have := lgFind_len t l ⟨g.segs ++ [x], x + ((rd (t.bytes (nm x))).2.1.length : Int)⟩
  simp only [List.length_append, List.length_cons, List.length_nil] at this ⊢
  omega
theorem lgFind_good {t : St} (hG : Good t.D t.room) : ∀ (l : List Int) (g : Lg), ((lgFind t l g).2.getD []).length ≤ 1048576
 | [], g => by simp [lgFind]
 | x :: l, g => by
  unfold lgFind
  simp only
  split
  · simp
  split
  · have := bytes_le hG (nm x)
    simp only [Option.getD_some, List.length_take]
    omega
  exact lgFind_good hG l _
theorem mLoad_len (t : St) : (mLoad t).1.length ≤ 40 := by
 unfold mLoad
 split
 · simp
 rename_i f _
 unfold mGet
 split
 · simp
 split
 · simp
 split
 · rename_i h
   exact (mOk_all h).2.1
 simp
theorem lgRestore_a (t : St) (g : Lg) (good : Option (List Nat)) (hf : lgFind t (mLoad t).1 ⟨[], 0⟩ = (g, good)) (h : g.segs = []) : lgRestore t = ((turnS restASS (g, t)).1, (turnS restASS (g, t)).2.2, (turnS restASS (g, t)).2.1) := by
 rw [restASS_is]
 unfold lgRestore
 simp only [hf]
 rw [if_pos h]
 split <;> rfl
theorem lgRestore_b (t : St) (g : Lg) (good : Option (List Nat)) (hf : lgFind t (mLoad t).1 ⟨[], 0⟩ = (g, good)) (h : g.segs ≠ []) : lgRestore t = ((turnS (restBSS g (mLoad t).1.length good) t).1, (turnS (restBSS g (mLoad t).1.length good) t).2, g) := by
 rw [restBSS_is]
 unfold lgRestore
 simp only [hf]
 rw [if_neg h]
 rfl
section
variable {w0 w : World} {dp lp size : Nat} {t : St} {D : Nat → Prop}
theorem restore_any (h : LK w0 w dp lp size ⟨[], 0⟩ t D none 0) (hL : Laid w0) :
 Calls Tryz.prog 32 #[.pointer (some ⟨lp, 0, none⟩)] w fun e w' => e = .returned (.int .i64 (lgRestore t).1) ∧ LMv w0 w dp lp size (lO D lp none) (lgRestore t).2.2 (lgRestore t).2.1 w' := by
 have hmf : ∀ (fn : Fn) (first cap : Array Value) (w : World), (Instr.makeFunc fn first cap).run Tryz.prog w = .ok (.func fn first cap) w := fun _ _ _ _ => rfl
 obtain ⟨w1, hw1⟩ : ∃ w1, w1 = w.alloc (.cells #[.pointer (some ⟨lp, 0, none⟩)] 29) := ⟨_, rfl⟩
 have hb1 : Below w.heap.size w w1 := by rw [hw1]; exact Qb.alloc Qn _
 have hs1 : w1.heap.size = w.heap.size + 1 := by rw [hw1]; simp
 have hl1 : w1.cell? ⟨w.heap.size, 0, none⟩ = some (.pointer (some ⟨lp, 0, none⟩)) := by rw [hw1]; exact cell_of_one (heap_alloc_new _ _)
 have hK1 := h.on hb1
 have c01 := hK1.at_.c0
 have hlt := h.at_.lt
 have LD := Qh (mload_any hK1.dk)
 have H := Qh (Qa h (Qa hL (Qa hK1 (Qa hb1 (Qa hl1 hs1)))))
 have HW1 := Qh hw1
 rw [hw1] at LD c01
 clear h hL hK1 hb1 hl1 hs1
 go_enter Tryz.func32, Tryz.ntmps32
 clear hw1
 go_wp2_with fail
 refine LD.out.mono ?_
 rintro e w2 ⟨v2, rfl, ho2, hb2⟩
 rw [← HW1.out] at ho2 hb2
 obtain ⟨a2, c2, rfl, hr2, hf2⟩ := OwnV.out_ ho2
 clear ho2 LD
 obtain ⟨l, hl⟩ : ∃ l, l = (mLoad t).1 := ⟨_, rfl⟩
 obtain ⟨n2, hn2⟩ : ∃ n2, n2 = (mLoad t).1.length := ⟨_, rfl⟩
 rw [← hn2, ← hl] at hr2
 rw [← hn2]
 have B2 : Below w1.heap.size w1 w2 := hb2
 have hl2 := (B2.cell (p := ⟨w.heap.size, 0, none⟩) (by have := H.out.2.2.2.2.2; show w.heap.size < _; omega)).trans H.out.2.2.2.2.1
 have hz2 : w1.heap.size ≤ w2.heap.size := B2.size
 have hlen := mLoad_len t
 obtain ⟨w3, hw3⟩ : ∃ w3, w3 = w2.alloc (.cells #[.slice a2 n2 c2] 50) := ⟨_, rfl⟩
 have hb3 : Below w2.heap.size w2 w3 := by rw [hw3]; exact Qb.alloc Qn _
 have hs3 : w3.heap.size = w2.heap.size + 1 := by rw [hw3]; simp
 have hi3 : w3.cell? ⟨w2.heap.size, 0, none⟩ = some (.slice a2 n2 c2) := by rw [hw3]; exact cell_of_one (heap_alloc_new _ _)
 have hl3 := (hb3.cell (p := ⟨w.heap.size, 0, none⟩) (block_lt_of_cell hl2)).trans hl2
 have B3 := B2.trans (hb3.mono B2.size)
 have B13 := H.out.2.2.2.1.trans (B3.mono H.out.2.2.2.1.size)
 have K3 := H.out.2.2.1.on B3
 have hr3 : Row w3 w3.heap.size a2 n2 c2 1 (intsC l) := (hr2.below hb3 Qn).more hb3.size
 have FD := find_any K3 H.out.2.1 l a2 n2 c2 hr3 (by rw [hl, hn2]) (by omega) (fun k o e => by have := hf2 k o e; have := H.out.2.2.2.2.2; omega)
 have HS := Qh (Qa hs3 (Qa hi3 (Qa hl3 (Qa B13 (Qa K3 (Qa hz2 (Qa hl hn2)))))))
 have HW3 := Qh hw3
 rw [hw3] at FD
 have HN : Hid (n2 ≤ 40) := by show n2 ≤ 40; omega
 clear hb2 B2 hl2 hz2 hlen hw3 hb3 hs3 hi3 hl3 B3 B13 K3 hr3 hr2 hf2 hl hn2
 have FD := Qh FD
 have hl3 := HS.out.2.2.1
 rw [HW3.out] at hl3
 go_wp2_with fail
 refine FD.out.mono ?_
 rintro e w4 hfl
 rw [← HW3.out] at hfl
 obtain ⟨⟨g, good⟩, hfd⟩ : ∃ r, r = lgFind t l ⟨[], 0⟩ := ⟨_, rfl⟩
 rw [← hfd] at hfl
 obtain ⟨a, m, c, sa, sc, rfl, s4, k4, b4, ha4, hsa4⟩ := hfl
 clear FD hl3
 have hB4 := b4.size
 have hlpl : w.heap.size ≠ lp := by omega
 have hl4 := (b4.cell (b := w.heap.size) (o := 0) (block_lt_of_cell HS.out.2.2.1) hlpl).trans HS.out.2.2.1
 have hi4 := (b4.cell (b := w2.heap.size) (o := 0) (block_lt_of_cell HS.out.2.1) (by have := HS.out.2.2.2.2.2.1; have := H.out.2.2.2.2.2; omega)).trans HS.out.2.1
 obtain ⟨w5, hw5⟩ : ∃ w5, w5 = (w4.alloc (.cells #[.slice a m c] 38)).alloc (.cells #[.bool good.isSome] 4) := ⟨_, rfl⟩
 have hb5 : Below w4.heap.size w4 w5 := by rw [hw5]; exact (Qb.alloc Qn _).alloc (by simp) _
 have hs5 : w5.heap.size = w4.heap.size + 2 := by rw [hw5]; simp
 have hg5 : w5.cell? ⟨w4.heap.size, 0, none⟩ = some (.slice a m c) := by rw [hw5]; simp [go_sem]
 have ht5 : w5.cell? ⟨w4.heap.size + 1, 0, none⟩ = some (.bool good.isSome) := by rw [hw5]; simp [go_sem]
 have hl5 := (hb5.cell (p := ⟨w.heap.size, 0, none⟩) (block_lt_of_cell hl4)).trans hl4
 have hi5 := (hb5.cell (p := ⟨w2.heap.size, 0, none⟩) (block_lt_of_cell hi4)).trans hi4
 have K5 := k4.on hb5
 have s5 := (s4.below hb5 Qn).more hb5.size
 have c25 := K5.at_.c2
 have hgl : g.segs.length ≤ 40 := by
  have h1 := lgFind_len t l ⟨[], 0⟩
  rw [← hfd] at h1
  have h2 := HN.out
  have h3 := HS.out.2.2.2.2.2.2
  simp only [List.length_nil] at h1
  rw [← h3.1] at *
  omega
 have hml : m ≤ 100000000 := by
  have h1 := lgFind_good H.out.1.dk.good l ⟨[], 0⟩
  rw [← hfd] at h1
  have h2 : (good.getD []).length = m := s4.length
  change (good.getD []).length ≤ _ at h1
  omega
 have hO4 := K5.lt
 have hw4s := HS.out.2.2.2.1.size
 have hw24 : w2.heap.size + 1 ≤ w4.heap.size := by have := HS.out.1; omega
 have hw12 := HS.out.2.2.2.2.2.1
 have hs1 := H.out.2.2.2.2.2
 have hbig : ∀ k, w.heap.size ≤ k → k < w3.heap.size → ¬ lO D lp sa k := fun k hk hk3 ho => by
  rcases ho with h1 | rfl | ⟨o, h1⟩
  · have := H.out.1.dk.lt k h1; omega
  · omega
  have := hsa4 k o h1; omega
 have hbig4 : ∀ k, w4.heap.size ≤ k → ¬ lO D lp sa k := fun k hk ho => by have := k4.lt k ho; omega
 have hs3 := HS.out.1
 have BW : But (lO D lp none) w w5 := ((But.of_below (O := lO D lp none) HS.out.2.2.2.1).trans b4 (fun k hk => .inl (.inr (.inl hk)))).trans (But.of_below (O := fun _ => False) hb5) (fun _ hf => hf.elim)
 have hOO : ∀ k, lO D lp sa k → lO D lp none k ∨ w.heap.size ≤ k := fun k hk => by
  rcases hk with h1 | h1 | ⟨o, h1⟩
  · exact .inl (.inl h1)
  · exact .inl (.inr (.inl h1))
  exact .inr (by have := hsa4 k o h1; omega)
 have hfd' : lgFind t (mLoad t).1 ⟨[], 0⟩ = (g, good) := by rw [← HS.out.2.2.2.2.2.2.1]; exact hfd.symm
 have HW5 := Qh hw5
 by_cases hg0 : g.segs = []
 · have hz0 : g.segs.length = 0 := by rw [hg0]; rfl
   have hres := Qh (lgRestore_a t g good hfd' hg0)
   rw [hz0] at c25
   obtain ⟨w6, hw6⟩ : ∃ w6, w6 = w5.alloc (.cells #[.func (.func 82) #[.pointer (some ⟨lp, 0, none⟩)] #[], .func (.func 83) #[] #[.pointer (some ⟨w.heap.size, 0, none⟩)]] 62) := ⟨_, rfl⟩
   have hb6 : Below w5.heap.size w5 w6 := by rw [hw6]; exact Qb.alloc Qn _
   have hc6 : ∀ k, k < 2 → w6.cell? ⟨w4.heap.size + 2, k, none⟩ = some (.func (.func (raF k)) (raP lp k) (raC w.heap.size k)) := by
    intro k hk
    rw [hw6, ← hs5]
    match k, hk with
    | 0, _ => exact (cell_of_row _ _ 0 _ _ _ (heap_alloc_new w5 _)).trans rfl
    | 1, _ => exact (cell_of_row _ _ 1 _ _ _ (heap_alloc_new w5 _)).trans rfl
   have RA := restsA_any (K5.on hb6) w.heap.size (w4.heap.size + 2) ((hb6.cell (p := ⟨w.heap.size, 0, none⟩) (block_lt_of_cell hl5)).trans hl5) (hbig _ Qn (by omega)) H.out.2.1 (Nat.le_trans hgl (by omega)) (hbig4 _ (by omega)) hc6
   have HB := Qh (Qa (BW.trans (But.of_below (O := fun _ => False) hb6) (fun _ hf => hf.elim)) (Qa hOO hw6))
   rw [hw6, hw5] at RA
   have RA := Qh RA
   rw [hw5] at hl5 c25
   generalize turnS restASS (g, t) = r at *
   clear hb6 hc6 hw6 hw5 K5 hb5 hs5 hg5 ht5 hi5 s5 hO4 hbig hbig4 BW hOO hfd' hfd k4 s4 b4 ha4 hsa4 hl4 hi4 hz0 hg0 hB4
   go_wp2_with fail
   refine RA.out.mono ?_
   rintro e w7 ⟨rfl, hm⟩
   rw [← HW5.out, ← HB.out.2.2] at hm
   have HM := Qh hm
   clear hm RA
   go_wp2
   go_ret
   rw [hres.out]
   exact ⟨rfl, LMv.then HB.out.1 HB.out.2.1 HM.out⟩
 have hres := Qh (lgRestore_b t g good hfd' hg0)
 have hn0 : g.segs.length ≠ 0 := fun h => hg0 (List.eq_nil_of_length_eq_zero h)
 rw [← HS.out.2.2.2.2.2.2.2] at hres
 obtain ⟨w6, hw6⟩ : ∃ w6, w6 = w5.alloc (.cells #[.func (.func 85) #[] #[.pointer (some ⟨w.heap.size, 0, none⟩), .pointer (some ⟨w2.heap.size, 0, none⟩)], .func (.func 87) #[] #[.pointer (some ⟨w.heap.size, 0, none⟩), .pointer (some ⟨w4.heap.size, 0, none⟩), .pointer (some ⟨w4.heap.size + 1, 0, none⟩)],
  .func (.func 82) #[.pointer (some ⟨lp, 0, none⟩)] #[], .func (.func 26) #[.pointer (some ⟨lp, 0, none⟩)] #[]] 62) := ⟨_, rfl⟩
 have hb6 : Below w5.heap.size w5 w6 := by rw [hw6]; exact Qb.alloc Qn _
 have hc6 : ∀ k, k < 4 → w6.cell? ⟨w4.heap.size + 2, k, none⟩ = some (.func (.func (rbF k)) (rbP lp k) (rbC w.heap.size w2.heap.size w4.heap.size (w4.heap.size + 1) k)) := by
  intro k hk
  rw [hw6, ← hs5]
  match k, hk with
  | 0, _ => exact (cell_of_row _ _ 0 _ _ _ (heap_alloc_new w5 _)).trans rfl
  | 1, _ => exact (cell_of_row _ _ 1 _ _ _ (heap_alloc_new w5 _)).trans rfl
  | 2, _ => exact (cell_of_row _ _ 2 _ _ _ (heap_alloc_new w5 _)).trans rfl
  | 3, _ => exact (cell_of_row _ _ 3 _ _ _ (heap_alloc_new w5 _)).trans rfl
 have K6 := K5.on hb6
 have s6 := (s5.below hb6 Qn).more hb6.size
 have hfar6 : ∀ k o, a = some ⟨k, o, none⟩ → ¬ D k ∧ k < w6.heap.size := fun k o e => by
  have h1 := ha4 k o e
  have h2 := hb6.size
  exact ⟨fun hd => by have := H.out.1.dk.lt k hd; omega, by omega⟩
 have RB := restsB_any K6 hg0 w.heap.size w2.heap.size w4.heap.size (w4.heap.size + 1) (w4.heap.size + 2) ((hb6.cell (p := ⟨w.heap.size, 0, none⟩) (block_lt_of_cell hl5)).trans hl5) (hbig _ Qn (by omega))
  a2 n2 c2 ((hb6.cell (p := ⟨w2.heap.size, 0, none⟩) (block_lt_of_cell hi5)).trans hi5) (hbig _ (by omega) (by omega)) (by have := HN.out; omega)
  good a m c ((hb6.cell (p := ⟨w4.heap.size, 0, none⟩) (block_lt_of_cell hg5)).trans hg5) (hbig4 _ Qn) ((hb6.cell (p := ⟨w4.heap.size + 1, 0, none⟩) (block_lt_of_cell ht5)).trans ht5) (hbig4 _ (by omega))
  s6 hml hfar6 H.out.2.1 (Nat.le_trans hgl (by omega)) (hbig4 _ (by omega)) hc6
 have HB := Qh (Qa (BW.trans (But.of_below (O := fun _ => False) hb6) (fun _ hf => hf.elim)) (Qa hOO hw6))
 rw [hw6, hw5] at RB
 have RB := Qh RB
 rw [hw5] at hl5 c25
 generalize turnS (restBSS g n2 good) t = r at *
 obtain ⟨n5, hn5⟩ : ∃ n5, n5 = g.segs.length := ⟨_, rfl⟩
 rw [← hn5] at c25 hn0
 have hne : ((n5 : Int) == 0) = false := by simp; omega
 clear hb6 hc6 hw6 hw5 K5 hb5 hs5 hg5 ht5 hi5 s5 hO4 hbig hbig4 BW hOO hfd' hfd k4 s4 b4 ha4 hsa4 hl4 hi4 hg0 hB4 K6 s6 hgl hn5 hfar6
 go_wp2_with fail
 refine RB.out.mono ?_
 rintro e w7 ⟨rfl, hm⟩
 rw [← HW5.out, ← HB.out.2.2] at hm
 have HM := Qh hm
 clear hm RB
 go_wp2
 go_ret
 rw [hres.out]
 exact ⟨rfl, LMv.then HB.out.1 HB.out.2.1 HM.out⟩
end
end
section
open Go.RowKit Go.Sort Go.Maps Go.Shelf
open Crc Frm
open Sgn
attribute [local go_sem] Oper.semAt_some
section
variable {w0 w : World} {dp lp size : Nat} {g : Lg} {t : St} {D : Nat → Prop} {sa : Option Addr} {sc : Nat}
theorem open1_any {bl : Nat} (hd : DK w0 w dp t D) (c0 : w.cell? ⟨lp, 0, none⟩ = some (.pointer (some ⟨dp, 0, none⟩))) (hlp : ¬ D lp) (hl : w.cell? ⟨bl, 0, none⟩ = some (.pointer (some ⟨lp, 0, none⟩))) (hDl : ¬ D bl) :
 Calls Tryz.prog 33 #[.pointer (some ⟨bl, 0, none⟩)] w fun e w' => e = .returned (.int .i64 (thenSt (t.drop fxL) fun t => t.drop nxL).1) ∧ Mv w0 w dp D (thenSt (t.drop fxL) fun t => t.drop nxL).2 w' := by
 have hbl : bl < w.heap.size := block_lt_of_cell hl
 have hlt : lp < w.heap.size := block_lt_of_cell c0
 obtain ⟨r, hr9⟩ : ∃ r, r = thenSt (t.drop fxL) fun t => t.drop nxL := ⟨_, rfl⟩
 obtain ⟨ob, hob⟩ : ∃ ob, ob = Obj.cells #[.string ⟨#[102, 105, 120, 46, 116, 109, 112]⟩, .string ⟨#[109, 97, 110, 105, 102, 101, 115, 116, 46, 116, 109, 112]⟩] 9 := ⟨_, rfl⟩
 have hB3 : Below w.heap.size w (w.alloc ob).drew := ((Below.refl w.heap.size w).alloc Qn _).drew
 have hg3 : (w.alloc ob).drew.heap[w.heap.size]? = some (.cells (([fxL, nxL].map fun s => Value.string ⟨s.toArray⟩).toArray) 9 (0, 0)) := by rw [hob]; exact heap_alloc_new w _
 have hc3 := (hB3.cell (p := ⟨lp, 0, none⟩) hlt).trans c0
 have hd3 := hd.on hB3
 obtain ⟨w3, hw3⟩ : ∃ w3, w3 = (w.alloc ob).drew := ⟨_, rfl⟩
 rw [← hw3] at hg3 hc3 hd3
 have DL := deleteThere_any hd3 hc3 hlp [fxL, nxL] w.heap.size 2 rfl (by decide) (0, 0) hg3 (fun h => by have := hd.lt _ h; omega) (by decide)
 rw [there_two, ← hr9] at DL
 rw [hw3] at DL
 have TH := there_any lp w.heap.size 2 (w.alloc ob).drew
 have hb5 := thereW_below (w.alloc ob).drew lp w.heap.size 2
 rw [hob] at DL TH hB3 hb5
 simp only [World.size_alloc, World.size_drew] at DL
 rw [← hr9]
 have TH := Qh TH
 have HD := Qh (Qa hd (Qa hlp (Qa hDl hB3)))
 have DL := Qh DL
 have B5 := Qh (hB3.trans (hb5.mono hB3.size))
 clear hd hr9 hlp hDl hg3 hc3 hd3 hw3 hob
 go_enter Tryz.func33, Tryz.ntmps33
 go_wp2_with fail
 refine wp_region_held_drew (S := fun x => x.cell? ⟨bl, 0, none⟩ = some (.pointer (some ⟨lp, 0, none⟩))) (by kernel_rfl) hl (fun hHeld => ?_)
 refine qi 0 (by assumption) ?_
 iterate 2 (refine qk rfl (by kernel_rfl) (fun _ _ _ h => h) (by intro w hSw; (try dsimp only at hSw); go_simp; all_goals with_reducible rfl) (by (try simp only [Act.put, lz]); rfl) ?_)
 refine qo ?_
 refine qr 2 rfl (by kernel_rfl) (fun K hK => ?_)
 rw [if_pos (by rfl)]
 go_simp
 refine hK.out _ _ ?_ (fun hHeld => ?_)
 · exact (hB3.cell (p := ⟨bl, 0, none⟩) hbl).trans hl
 clear hK K
 try simp only [Act.put, lz]
 refine qr 3 rfl (by kernel_rfl) (fun K hK => ?_)
 rw [if_pos (by rfl)]
 go_simp
 go_at_call 35
 with_reducible refine TH.out.mono ?_
 rintro e w2 ⟨rfl, rfl⟩
 have j1 := (B5.out.cell (p := ⟨bl, 0, none⟩) hbl).trans hl
 refine hK.out _ _ ?_ (fun hHeld => ?_)
 · exact j1
 clear hK K
 try simp only [Act.put, lz]
 refine qr 4 rfl (by kernel_rfl) (fun K hK => ?_)
 rw [if_pos (by rfl)]
 go_simp
 go_at_call 34
 with_reducible refine DL.out.mono ?_
 rintro e w3 ⟨rfl, hm⟩
 have hm2 := Mv.behind HD.out.2.2.2 hm
 obtain ⟨D2, _, b2, _⟩ := hm2
 refine hK.out _ _ ?_ (fun hHeld => ?_)
 · exact (b2.cell (b := bl) (o := 0) hbl HD.out.2.2.1).trans hl
 clear hK K
 try simp only [Act.put, lz]
 refine qi 5 (by assumption) ?_
 refine qk rfl (by kernel_rfl) (fun _ _ _ h => h) (by intro w hSw; (try dsimp only at hSw); go_simp; all_goals with_reducible rfl) (by (try simp only [Act.put, lz]); rfl) ?_
 refine qo ?_
 refine wpAnyH_done (by kernel_rfl) ?_ _
 have HM := Qh (Mv.behind HD.out.2.2.2 hm)
 clear hm b2 hHeld DL
 go_wp2
 go_ret
 exact ⟨rfl, HM.out⟩
end
end
section
open Go.RowKit Go.Sort Go.Maps Go.Shelf
open Crc Frm
open Sgn
attribute [local go_sem] Oper.semAt_some
def openSS : List (Lg × St → Int × (Lg × St)) := [fun s => ((lgRestore s.2).1, ((lgRestore s.2).2.2, (lgRestore s.2).2.1)), fun s => ((thenSt (s.2.drop fxL) fun t => t.drop nxL).1, (s.1, (thenSt (s.2.drop fxL) fun t => t.drop nxL).2))]
theorem openSS_is (size : Int) (hs : ¬ (size < 64 ∨ 65536 < size)) (t : St) : lgOpen size t = ((turnS openSS (⟨[], 0⟩, t)).1, (turnS openSS (⟨[], 0⟩, t)).2.2, if (turnS openSS (⟨[], 0⟩, t)).1 = 0 then some (turnS openSS (⟨[], 0⟩, t)).2.1 else none) := by
 have e2 : ∀ r : Int × St, r.1 = 0 → (thenSt (thenSt r fun t => t.drop fxL) fun t => t.drop nxL) = thenSt (r.2.drop fxL) fun t => t.drop nxL := fun r h => by rw [thenSt_eq r _ h]
 have e3 : ∀ r : Int × St, r.1 ≠ 0 → (thenSt (thenSt r fun t => t.drop fxL) fun t => t.drop nxL) = r := fun r h => by rw [thenSt_ne r _ h, thenSt_ne r _ h]
 unfold lgOpen
 rw [if_neg hs]
 simp only
 unfold openSS
 by_cases h1 : (lgRestore t).1 = 0
 · rw [turnS_thens _ _ _ h1, turnS_last, e2 _ h1]
   simp only
   generalize (thenSt ((lgRestore t).2.1.drop fxL) fun t => t.drop nxL) = q
   by_cases h : q.1 = 0
   · rw [if_neg (by simp [h]), if_pos h, h]
   rw [if_pos h, if_neg h]
 rw [turnS_stop _ _ _ h1, e3 _ h1]
 simp only
 rw [if_pos h1, if_neg h1]
section
variable {w0 w : World} {dp lp size : Nat} {t : St} {D : Nat → Prop}
abbrev opF : Nat → FuncId
 | 0 => 32
 | _ => 33
abbrev opP (lp : Nat) : Nat → Array Value
 | 0 => #[.pointer (some ⟨lp, 0, none⟩)]
 | _ => #[]
abbrev opC (bl : Nat) : Nat → Array Value
 | 0 => #[]
 | _ => #[.pointer (some ⟨bl, 0, none⟩)]
theorem opens_any (h : LK w0 w dp lp size ⟨[], 0⟩ t D none 0) (bl gb : Nat) (hl : w.cell? ⟨bl, 0, none⟩ = some (.pointer (some ⟨lp, 0, none⟩))) (hbl : ¬ lO D lp none bl) (hL : Laid w0)
 (hgb : ¬ lO D lp none gb) (hc : ∀ k, k < 2 → w.cell? ⟨gb, k, none⟩ = some (.func (.func (opF k)) (opP lp k) (opC bl k))) :
 Calls Tryz.prog 31 #[.slice (some ⟨gb, 0, none⟩) 2 2] w fun e w' => e = .returned (.int .i64 (turnS openSS (⟨[], 0⟩, t)).1) ∧ LMv w0 w dp lp size (lO D lp none) (turnS openSS (⟨[], 0⟩, t)).2.1 (turnS openSS (⟨[], 0⟩, t)).2.2 w' := by
 have hll : bl < w.heap.size := block_lt_of_cell hl
 have hgl : gb < w.heap.size := block_lt_of_cell (hc 0 (by omega))
 have k2 : ∀ x : World, (callFunc 32 (opP lp 0 ++ opC bl 0)).run Tryz.prog x = .ok (.enter 32 (opP lp 0 ++ opC bl 0)) x := fun x => by kernel_rfl
 have k3 : ∀ x : World, (callFunc 33 (opP lp 1 ++ opC bl 1)).run Tryz.prog x = .ok (.enter 33 (opP lp 1 ++ opC bl 1)) x := fun x => by kernel_rfl
 refine (lturnK_any openSS 2 rfl opF (opP lp) (opC bl) gb w (fun k s w' => (k = 0 → s = (⟨[], 0⟩, t) ∧ w' = w) ∧ LMv w0 w dp lp size (lO D lp none) s.1 s.2 w') (⟨[], 0⟩, t) (by omega) ?_ ?_ ?_ ⟨fun _ => ⟨rfl, rfl⟩, h.still Qb⟩).mono fun e w' ⟨he, _, _, hm⟩ => ⟨he, hm⟩
 · rintro k s w' hk ⟨_, D', sa', sc', _, hb, _⟩
   exact (hb.cell hgl hgb).trans (hc k hk)
 · intro k x hk
   match k, hk with
   | 0, _ => exact k2 x
   | 1, _ => exact k3 x
 rintro k f s w' hf ⟨hg, D', sa', sc', hk1, hb, hO⟩
 match k, hf with
 | 0, hf =>
  injection hf with hf; subst hf
  obtain ⟨e1, e2⟩ := hg rfl
  subst e1 e2
  exact (restore_any h hL).mono fun e w'' ⟨he, hm⟩ => ⟨he, fun h => absurd h (by omega), hm⟩
 | 1, hf =>
  injection hf with hf; subst hf
  refine (open1_any hk1.dk hk1.at_.c0 hk1.own ((hb.cell (o := 0) hll hbl).trans hl) (fun hd => ?_)).mono fun e w'' ⟨he, hm⟩ => ⟨he, fun h => absurd h (by omega), LMv.then hb hO (hk1.mv hm)⟩
  rcases hO bl (.inl hd) with h4 | h4
  · exact hbl h4
  omega
 | k + 2, hf => simp [openSS] at hf
def OpenL (w0 w : World) (dp size : Nat) (D : Nat → Prop) (r : Int × St × Option Lg) (e : Ending) (w' : World) : Prop :=
 match r.2.2 with
 | none => e = .returned (.tuple #[.pointer none, .int .i64 r.1]) ∧ Mv w0 w dp D r.2.1 w'
 | some g => ∃ lp D' sa sc, e = .returned (.tuple #[.pointer (some ⟨lp, 0, none⟩), .int .i64 0]) ∧ LK w0 w' dp lp size g r.2.1 D' sa sc ∧ But D w w' ∧ w.heap.size ≤ lp ∧ ∀ k, lO D' lp sa k → D k ∨ w.heap.size ≤ k
theorem lgopen_any (hd : DK w0 w dp t D) (hL : Laid w0) (h64 : 64 ≤ size) (h65 : size ≤ 65536) :
 Calls Tryz.prog 9 #[.pointer (some ⟨dp, 0, none⟩), .int .i64 (size : Int)] w (OpenL w0 w dp size D (lgOpen size t)) := by
 have hmf : ∀ (fn : Fn) (first cap : Array Value) (w : World), (Instr.makeFunc fn first cap).run Tryz.prog w = .ok (.func fn first cap) w := fun _ _ _ _ => rfl
 obtain ⟨w2, hw2⟩ : ∃ w2, w2 = ((w.alloc (.cells #[.pointer (some ⟨dp, 0, none⟩), .int .i64 (size : Int), .slice none 0 0, .int .i64 0] 77)).alloc (.cells #[.pointer (some ⟨w.heap.size, 0, none⟩)] 29)).alloc (.cells #[.func (.func 32) #[.pointer (some ⟨w.heap.size, 0, none⟩)] #[], .func (.func 33) #[] #[.pointer (some ⟨w.heap.size + 1, 0, none⟩)]] 62) := ⟨_, rfl⟩
 have hb2 : Below w.heap.size w w2 := by rw [hw2]; exact ((Qb.alloc Qn _).alloc (by simp) _).alloc (by simp; omega) _
 have hs2 : w2.heap.size = w.heap.size + 3 := by rw [hw2]; simp
 have hblk : w2.heap[w.heap.size]? = some (.cells #[.pointer (some ⟨dp, 0, none⟩), .int .i64 (size : Int), .slice none 0 0, .int .i64 0] 77 (0, 0)) := by
  rw [hw2, Below.heap_alloc _ _ _ (by simp; omega), Below.heap_alloc _ _ _ (by simp)]
  exact heap_alloc_new _ _
 have hl2 : w2.cell? ⟨w.heap.size + 1, 0, none⟩ = some (.pointer (some ⟨w.heap.size, 0, none⟩)) := by rw [hw2]; simp [go_sem]
 have hDlt := hd.lt
 have hww := hd.below.size
 have K2 : LK w0 w2 dp w.heap.size size ⟨[], 0⟩ t D none 0 := ⟨hd.on hb2, ⟨hblk, ⟨Nat.le_refl _, by unfold maxLen; omega, fun h => absurd h (by decide)⟩, fun _ => ⟨rfl, rfl⟩⟩, hww, fun hd => by have := hDlt _ hd; omega, fun k o e => by cases e⟩
 have hc2 : ∀ k, k < 2 → w2.cell? ⟨w.heap.size + 2, k, none⟩ = some (.func (.func (opF k)) (opP w.heap.size k) (opC (w.heap.size + 1) k)) := by
  intro k hk
  rw [hw2, show w.heap.size + 2 = ((w.alloc (.cells #[.pointer (some ⟨dp, 0, none⟩), .int .i64 (size : Int), .slice none 0 0, .int .i64 0] 77)).alloc (.cells #[.pointer (some ⟨w.heap.size, 0, none⟩)] 29)).heap.size from by simp]
  match k, hk with
  | 0, _ => exact (cell_of_row _ _ 0 _ _ _ (heap_alloc_new _ _)).trans rfl
  | 1, _ => exact (cell_of_row _ _ 1 _ _ _ (heap_alloc_new _ _)).trans rfl
 have nO : ∀ k, w.heap.size < k → ¬ lO D w.heap.size none k := fun k hk ho => by
  rcases ho with h1 | h1 | ⟨o, h1⟩
  · have := hDlt k h1; omega
  · omega
  cases h1
 have OP := opens_any K2 (w.heap.size + 1) (w.heap.size + 2) hl2 (nO _ (by omega)) hL (nO _ (by omega)) hc2
 have hO : ∀ k, lO D w.heap.size none k → D k ∨ w.heap.size ≤ k := fun k ho => by
  rcases ho with h1 | h1 | ⟨o, h1⟩
  · exact .inl h1
  · exact .inr (by omega)
  cases h1
 have hres := openSS_is (size : Int) (by omega) t
 have HA := Qh (Qa hO (Qa hb2 (Qa hl2 (Qa (nO (w.heap.size + 1) (by omega)) (Qa hs2 hw2)))))
 rw [hw2] at OP
 have OP := Qh OP
 have HR := Qh hres
 generalize turnS openSS (⟨[], 0⟩, t) = r at *
 have i64 : ((size : Int) < 64) = False := by simp; omega
 have i65 : (65536 < (size : Int)) = False := by simp; omega
 have h64' : (64 : Int) ≤ (size : Int) := by omega
 have h65' : (size : Int) ≤ 65536 := by omega
 clear hd hL hb2 hs2 hblk hl2 hDlt hww K2 hc2 nO hO hres hw2 i64 i65 h64 h65
 go_enter Tryz.func9, Tryz.ntmps9
 go_wp2_with fail
 refine OP.out.mono ?_
 rintro e w3 ⟨rfl, hm⟩
 rw [← HA.out.2.2.2.2.2] at hm
 obtain ⟨D', sa, sc, k3, b3, hO3⟩ := hm
 have hl3 := (b3.cell (b := w.heap.size + 1) (o := 0) (by have := HA.out.2.2.2.2.1; omega) HA.out.2.2.2.1).trans HA.out.2.2.1
 have HB := Qh (Qa k3 (Qa ((But.of_below (O := D) HA.out.2.1).trans b3 HA.out.1) (fun k hk => by
  rcases hO3 k hk with h1 | h1
  · exact HA.out.1 k h1
  exact .inr (Nat.le_trans HA.out.2.1.size h1) : ∀ k, lO D' w.heap.size sa k → D k ∨ w.heap.size ≤ k)))
 clear OP k3 b3 hO3
 by_cases h0 : r.1 = 0
 · have hgo := HR.out
   rw [if_pos h0, h0] at hgo
   have HG := Qh hgo
   clear hgo HR
   go_wp2
   go_ret2
   rw [HG.out]
   exact ⟨w.heap.size, D', sa, sc, rfl, HB.out.1, HB.out.2.1, Nat.le_refl _, HB.out.2.2⟩
 have hne : ((r.1 : Int) != 0) = true := by simpa using h0
 have hgo := HR.out
 rw [if_neg h0] at hgo
 have HG := Qh hgo
 clear hgo HR h0
 go_wp2
 go_ret2
 rw [HG.out]
 exact ⟨rfl, D', HB.out.1.dk, HB.out.2.1, fun k hk => HB.out.2.2 k (.inl hk)⟩
end
end
end Go.Proofs.YtamblmoedommfaaGreatDoor
