/- EventBack: the walk. -/
import Derived.Test.YtjhondlcnpappaaEventKindsW
namespace Go.Proofs.Ytjhondlcnpappaa
open Go.RowKit
open Wir Evn
attribute [local go_sem] Oper.semAt_some

theorem kind_at {w : World} {q : Nat} {e : Ev} {a1 a2 a3 : Option Addr} {c1 c2 c3 : Nat} {k : Int} (h : EvAt w q e a1 a2 a3 c1 c2 c3) (hk : e.kind = k) : w.cell? ⟨q, 0, none⟩ = some (.int .i64 k) := by
  rw [← hk]; exact evC_cell h.cells 0 _ rfl
theorem exec_load_row {P : Program} {o : Oper} {ρ : Operand → Value} {w : World} (ty : TypeId) (x : Operand) (ho : o.op = .load ty x)
    (g : Nat) (hx : ρ x = .pointer (some ⟨g, 0, none⟩)) (t : TypeId) (cs : Array Value) (fr : Nat × Nat) (d : TypeDesc) (hg : w.heap[g]? = some (.cells cs t fr))
    (hu : P.underlying ty = some d) (hd : (match d with | .struct _ | .array _ _ => true | _ => false) = true) (hi : (P.info? ty).map (·.size) = some cs.size) :
    (execOp ρ o).run P w = .ok (.value (.agg cs)) w := by
  unfold execOp
  simp only [ho, hx, Instr.loadAt, Instr.sureAddr, Sem.run_bind, Sem.run_pure, Result.andThen_ok, run_loadVar_row w g t ty cs fr d hg hu hd hi]
set_option linter.unusedSimpArgs false in
set_option maxRecDepth 100000 in
set_option maxHeartbeats 6400000 in
theorem eventBack_walk {w : World} {a1 a2 a3 : Option Addr} {c1 c2 c3 : Nat} (e : Ev) (hm : EvM w a1 a2 a3 c1 c2 c3 e) (kind : Int) (hk : I64 kind) {ab : Option Addr} {lb cb : Nat} {bs : List Nat} (hs : Sl w w.heap.size ab lb cb bs) :
    Calls Try.prog 4 #[evV e a1 a2 a3 c1 c2 c3, .int .i64 kind, .slice ab lb cb] w fun r w' => r = .returned (.bool true) ∧ Below w.heap.size w w' := by
  have HS := Lib.hid (And.intro hk hs)
  clear hk hs
  have hbv := box_var hm
  have HB := Lib.hid hbv
  clear hbv hm
  unfold evV
  go_enter Try.func4, Try.ntmps4
  go_wp2_with fail
  refine (head_any _).mono ?_
  rintro r w1 ⟨rfl, h1⟩
  have V1 := Lib.hid (HB.out.1.on h1)
  have B1 := Lib.hid (bel2 HB.out.2 h1)
  clear h1 HB
  go_wp2_with (first | (refine wpList_load_row (by rfl) 30 (.tmp 3) (by rfl) w.heap.size (by rfl) 30 (evC e a1 a2 a3 c1 c2 c3) (0, 0) _ V1.out.cells Try.underlying30 (by rfl) (by kernel_rfl) ?_))
  refine (great_any e a1 a2 a3 c1 c2 c3 _).mono ?_
  rintro r w2 ⟨rfl, h2⟩
  have V2 := Lib.hid (V1.out.on h2)
  have B2 := Lib.hid (bel2 B1.out h2)
  clear h2 V1 B1
  cases hg : grtR e
  rotate_left
  · clear hg
    go_wp2
    go_ret
    exact ⟨rfl, B2.out⟩
  have hgr : e.pol.bands.length ≤ 60 ∧ e.pol.slots.length ≤ 60 ∧ e.body.length ≤ 3000 := by
    have := of_decide_eq_false hg
    omega
  have HG := Lib.hid hgr
  clear hg hgr
  by_cases hlb : 3000 < lb
  · have d1 : decide ((3000 : Int) < (lb : Int)) = true := by simp; omega
    go_wp2
    go_ret
    exact ⟨rfl, B2.out⟩
  have d1 : decide ((3000 : Int) < (lb : Int)) = false := by simp; omega
  have HL := Lib.hid hlb
  go_wp2_with (first | (refine wpList_load_row (by rfl) 30 (.tmp 3) (by rfl) w.heap.size (by rfl) 30 (evC e a1 a2 a3 c1 c2 c3) (0, 0) _ V2.out.cells Try.underlying30 (by rfl) (by kernel_rfl) ?_))
  refine (put_any e V2.out.mem (by have := HG.out; omega) (by have := HG.out; omega) (by have := HG.out; omega)).mono ?_
  rintro r w3 ⟨pa, pc, rfl, hs3, hb3⟩
  have V3 := Lib.hid (V2.out.on hb3)
  have B3 := Lib.hid (bel2 B2.out hb3)
  have S3 := Lib.hid hs3
  clear hb3 hs3 V2 B2
  go_wp2_with (first | (refine wpList_load_row (by rfl) 30 (.tmp 3) (by rfl) w.heap.size (by rfl) 30 (evC e a1 a2 a3 c1 c2 c3) (0, 0) _ V3.out.cells Try.underlying30 (by rfl) (by kernel_rfl) ?_))
  refine (right_any e V3.out.mem.bands V3.out.mem.slots).mono ?_
  rintro r w4 ⟨rfl, hb4⟩
  have V4 := Lib.hid (V3.out.on hb4)
  have B4 := Lib.hid (bel2 B3.out hb4)
  have S4 := Lib.hid ((S3.out.below hb4 (Nat.le_refl _)).more hb4.size)
  clear hb4 V3 B3 S3
  cases hr : rightR e
  · have hz : (putR e).length = 0 := by rw [put_wrong hr]; rfl
    have B6 := B4
    rw [hz]
    clear hr hz B4
    go_wp2_with fail
    refine (get_any kind HS.out.1 ((HS.out.2.below B6.out (Nat.le_refl _)).more B6.out.size) (by have := HL.out; omega)).mono ?_
    rintro r w7 ⟨g1, g2, g3, h1, h2, h3, rfl, hm7, hb7⟩
    obtain ⟨w8, e8, x8, b8⟩ := new_var hm7
    have B8 := Lib.hid (bel2 (bel2 B6.out hb7) b8)
    have hby := HS.out.2.byte
    have hlb := HS.out.2.length
    have hback := get_back (k := kind) (bs := bs) hby
    have hno := get_no (k := kind) (bs := bs) hby
    have herr := get_err kind bs
    generalize getR kind bs = g at *
    obtain ⟨y, f⟩ := g
    simp only at hback hno herr x8 e8
    have X8 := Lib.hid x8
    have HE8 := Lib.hid e8
    have S8 := Lib.hid ((HS.out.2.below B8.out (Nat.le_refl _)).more B8.out.size)
    clear hm7 hb7 b8 e8 x8 B6
    by_cases hf : f = 0
    · have hb := hback hf
      subst hf
      have hp : putR y = bs := by rw [put_right hb.1 X8.out.mem.v64]; exact hb.2.2
      have HP := Lib.hid (And.intro hb hp)
      have HLB := Lib.hid hlb
      clear hback hno herr hb hp hby hlb
      go_wp2_with (first | (refine wpList_store_mid (by rfl) 30 (.tmp 11) (.tmp 53) (by rfl) w7.heap.size 0 (evC y g1 g2 g3 h1 h2 h3) (by rfl) (by rfl) (there_new _ _) (by kernel_rfl) (by kernel_rfl) ?_; rw [HE8.out]))
      have s1 := X8.out.cells
      have s2 : w8.cell? ⟨w7.heap.size, 0, none⟩ = some (.int .i64 kind) := kind_at X8.out HP.out.1.2.1
      have s3 := run_strv S8.out
      refine wp_region_held_drew (S := fun x => x.heap[w7.heap.size]? = some (.cells (evC y g1 g2 g3 h1 h2 h3) 30 (0, 0)) ∧ x.cell? ⟨w7.heap.size, 0, none⟩ = some (.int .i64 kind) ∧ (convert 28 9 (.slice ab lb cb)).run Try.prog x = .ok (.string (strOf bs)) x) (by kernel_rfl) ⟨s1, s2, run_strv (show Sl w8.drew w8.drew.heap.size ab lb cb bs from S8.out.drew)⟩ (fun hHeld => ?_)
      clear s1 s2 s3
      refine wpAnyH_take (i := 0) (v := ?_) rfl (by kernel_rfl) (by kernel_rfl) (by kernel_rfl) (fun _ _ _ h => h) (Or.inl ⟨by rfl, ?_⟩) (by assumption) ?_
      rotate_left
      · intro w hSw
        (try dsimp only at hSw)
        go_simp
        all_goals with_reducible rfl
      try simp only [Act.put, List.getElem_toArray, List.getElem_cons_succ, List.getElem_cons_zero, List.setIfInBounds_toArray, List.set_cons_zero, List.set_cons_succ]
      refine wpAnyH_take (i := 1) (v := ?_) rfl (by kernel_rfl) (by kernel_rfl) (by kernel_rfl) (fun _ _ _ h => h) (Or.inl ⟨by rfl, ?_⟩) (by assumption) ?_
      rotate_left
      · intro w hSw
        (try dsimp only at hSw)
        go_simp
        all_goals with_reducible rfl
      try simp only [Act.put, List.getElem_toArray, List.getElem_cons_succ, List.getElem_cons_zero, List.setIfInBounds_toArray, List.set_cons_zero, List.set_cons_succ]
      refine wpAnyH_take (i := 2) (v := .agg (evC y g1 g2 g3 h1 h2 h3)) rfl (by kernel_rfl) (by kernel_rfl) (by kernel_rfl) (fun _ _ _ h => h) (Or.inl ⟨by rfl, fun w hS => exec_load_row 30 (.tmp 11) rfl w7.heap.size rfl 30 (evC y g1 g2 g3 h1 h2 h3) (0, 0) _ hS.1 Try.underlying30 rfl (by kernel_rfl)⟩) (by assumption) ?_
      try simp only [Act.put, List.getElem_toArray, List.getElem_cons_succ, List.getElem_cons_zero, List.setIfInBounds_toArray, List.set_cons_zero, List.set_cons_succ]
      refine wpAnyH_ready (rs := [3]) (by kernel_rfl) (by simp) ?_
      refine AllReadyH.cons rfl (fun K hK => ?_) AllReadyH.nil
      rw [if_pos (by rfl)]
      go_simp
      go_at_call 13
      refine (right_to HP.out.1.1 (X8.out.on (Below.drew (Below.refl _ _))).mem).mono ?_
      rintro r w9 ⟨rfl, h9⟩
      have X9 := Lib.hid ((X8.out.on (Below.drew (Below.refl _ _))).on h9)
      have S9 := Lib.hid ((S8.out.drew.below h9 (Nat.le_refl _)).more h9.size)
      have B9 := Lib.hid (bel2 (Below.drew B8.out) h9)
      clear h9 X8 S8 B8
      refine hK.out _ _ ?_ (fun hHeld => ?_)
      · exact ⟨X9.out.cells, kind_at X9.out HP.out.1.2.1, run_strv S9.out⟩
      clear hK K
      try simp only [Act.put, List.getElem_toArray, List.getElem_cons_succ, List.getElem_cons_zero, List.setIfInBounds_toArray, List.set_cons_zero, List.set_cons_succ]
      refine wpAnyH_take (i := 4) (v := ?_) rfl (by kernel_rfl) (by kernel_rfl) (by kernel_rfl) (fun _ _ _ h => h) (Or.inl ⟨by rfl, ?_⟩) (by assumption) ?_
      rotate_left
      · intro w hSw
        (try dsimp only at hSw)
        go_simp
        all_goals with_reducible rfl
      try simp only [Act.put, List.getElem_toArray, List.getElem_cons_succ, List.getElem_cons_zero, List.setIfInBounds_toArray, List.set_cons_zero, List.set_cons_succ]
      refine wpAnyH_take (i := 5) (v := ?_) rfl (by kernel_rfl) (by kernel_rfl) (by kernel_rfl) (fun _ _ _ h => h) (Or.inl ⟨by rfl, ?_⟩) (by assumption) ?_
      rotate_left
      · intro w hSw
        (try dsimp only at hSw)
        go_simp
        all_goals with_reducible rfl
      try simp only [Act.put, List.getElem_toArray, List.getElem_cons_succ, List.getElem_cons_zero, List.setIfInBounds_toArray, List.set_cons_zero, List.set_cons_succ]
      refine wpAnyH_take (i := 6) (v := ?_) rfl (by kernel_rfl) (by kernel_rfl) (by kernel_rfl) (fun _ _ _ h => h) (Or.inl ⟨by rfl, ?_⟩) (by assumption) ?_
      rotate_left
      · intro w hSw
        (try dsimp only at hSw)
        go_simp
        all_goals with_reducible rfl
      try simp only [Act.put, List.getElem_toArray, List.getElem_cons_succ, List.getElem_cons_zero, List.setIfInBounds_toArray, List.set_cons_zero, List.set_cons_succ]
      refine wpAnyH_take (i := 7) (v := ?_) rfl (by kernel_rfl) (by kernel_rfl) (by kernel_rfl) (fun _ _ _ h => h) (Or.inl ⟨by rfl, ?_⟩) (by assumption) ?_
      rotate_left
      · intro w hSw
        (try dsimp only at hSw)
        go_simp
        all_goals with_reducible rfl
      try simp only [Act.put, List.getElem_toArray, List.getElem_cons_succ, List.getElem_cons_zero, List.setIfInBounds_toArray, List.set_cons_zero, List.set_cons_succ]
      refine wpAnyH_take (i := 8) (v := ?_) rfl (by kernel_rfl) (by kernel_rfl) (by kernel_rfl) (fun _ _ _ h => h) (Or.inl ⟨by rfl, ?_⟩) (by assumption) ?_
      rotate_left
      · intro w hSw
        (try dsimp only at hSw)
        go_simp
        all_goals with_reducible rfl
      try simp only [Act.put, List.getElem_toArray, List.getElem_cons_succ, List.getElem_cons_zero, List.setIfInBounds_toArray, List.set_cons_zero, List.set_cons_succ]
      refine wpAnyH_take (i := 9) (v := ?_) rfl (by kernel_rfl) (by kernel_rfl) (by kernel_rfl) (fun _ _ _ h => h) (Or.inl ⟨by rfl, ?_⟩) (by assumption) ?_
      rotate_left
      · intro w hSw
        (try dsimp only at hSw)
        go_simp
        all_goals with_reducible rfl
      try simp only [Act.put, List.getElem_toArray, List.getElem_cons_succ, List.getElem_cons_zero, List.setIfInBounds_toArray, List.set_cons_zero, List.set_cons_succ]
      refine wpAnyH_take (i := 10) (v := ?_) rfl (by kernel_rfl) (by kernel_rfl) (by kernel_rfl) (fun _ _ _ h => h) (Or.inl ⟨by rfl, ?_⟩) (by assumption) ?_
      rotate_left
      · intro w hSw
        (try dsimp only at hSw)
        go_simp
        all_goals with_reducible rfl
      try simp only [Act.put, List.getElem_toArray, List.getElem_cons_succ, List.getElem_cons_zero, List.setIfInBounds_toArray, List.set_cons_zero, List.set_cons_succ]
      refine wpAnyH_take (i := 11) (v := ?_) rfl (by kernel_rfl) (by kernel_rfl) (by kernel_rfl) (fun _ _ _ h => h) (Or.inl ⟨by rfl, ?_⟩) (by assumption) ?_
      rotate_left
      · intro w hSw
        (try dsimp only at hSw)
        go_simp
        all_goals with_reducible rfl
      try simp only [Act.put, List.getElem_toArray, List.getElem_cons_succ, List.getElem_cons_zero, List.setIfInBounds_toArray, List.set_cons_zero, List.set_cons_succ]
      refine wpAnyH_take (i := 12) (v := .agg (evC y g1 g2 g3 h1 h2 h3)) rfl (by kernel_rfl) (by kernel_rfl) (by kernel_rfl) (fun _ _ _ h => h) (Or.inl ⟨by rfl, fun w hS => exec_load_row 30 (.tmp 11) rfl w7.heap.size rfl 30 (evC y g1 g2 g3 h1 h2 h3) (0, 0) _ hS.1 Try.underlying30 rfl (by kernel_rfl)⟩) (by assumption) ?_
      try simp only [Act.put, List.getElem_toArray, List.getElem_cons_succ, List.getElem_cons_zero, List.setIfInBounds_toArray, List.set_cons_zero, List.set_cons_succ]
      refine wpAnyH_take (i := 15) (v := ?_) rfl (by kernel_rfl) (by kernel_rfl) (by kernel_rfl) (fun _ _ _ h => h) (Or.inl ⟨by rfl, ?_⟩) (by assumption) ?_
      rotate_left
      · intro w hSw
        (try dsimp only at hSw)
        go_simp
        all_goals with_reducible rfl
      try simp only [Act.put, List.getElem_toArray, List.getElem_cons_succ, List.getElem_cons_zero, List.setIfInBounds_toArray, List.set_cons_zero, List.set_cons_succ]
      refine wpAnyH_take (i := 16) (v := ?_) rfl (by kernel_rfl) (by kernel_rfl) (by kernel_rfl) (fun _ _ _ h => h) (Or.inl ⟨by rfl, ?_⟩) (by assumption) ?_
      rotate_left
      · intro w hSw
        (try dsimp only at hSw)
        go_simp
        all_goals with_reducible rfl
      try simp only [Act.put, List.getElem_toArray, List.getElem_cons_succ, List.getElem_cons_zero, List.setIfInBounds_toArray, List.set_cons_zero, List.set_cons_succ]
      refine wpAnyH_ready (rs := [13]) (by kernel_rfl) (by simp) ?_
      refine AllReadyH.cons rfl (fun K hK => ?_) AllReadyH.nil
      rw [if_pos (by rfl)]
      go_simp
      go_at_call 19
      refine (put_to HP.out.2 X9.out.mem (by have := right_len HP.out.1.1; omega)).mono ?_
      rintro r wA ⟨pa, pc, rfl, hsA, hbA⟩
      have XA := Lib.hid (X9.out.on hbA)
      have SA := Lib.hid ((S9.out.below hbA (Nat.le_refl _)).more hbA.size)
      have BA := Lib.hid (bel2 B9.out hbA)
      have qA := run_strv hsA
      clear hsA hbA X9 S9 B9
      refine hK.out _ _ ?_ (fun hHeld => ?_)
      · exact ⟨XA.out.cells, kind_at XA.out HP.out.1.2.1, run_strv SA.out⟩
      clear hK K
      try simp only [Act.put, List.getElem_toArray, List.getElem_cons_succ, List.getElem_cons_zero, List.setIfInBounds_toArray, List.set_cons_zero, List.set_cons_succ]
      refine wpAnyH_ready (rs := [14]) (by kernel_rfl) (by simp) ?_
      refine AllReadyH.cons rfl (fun K hK => ?_) AllReadyH.nil
      rw [if_pos (by rfl)]
      go_simp
      refine hK.out _ _ ?_ (fun hHeld => ?_)
      · exact ⟨XA.out.cells, kind_at XA.out HP.out.1.2.1, run_strv SA.out⟩
      clear hK K
      try simp only [Act.put, List.getElem_toArray, List.getElem_cons_succ, List.getElem_cons_zero, List.setIfInBounds_toArray, List.set_cons_zero, List.set_cons_succ]
      clear qA
      refine wpAnyH_take (i := 17) (v := ?_) rfl (by kernel_rfl) (by kernel_rfl) (by kernel_rfl) (fun _ _ _ h => h) (Or.inl ⟨by rfl, ?_⟩) (by assumption) ?_
      rotate_left
      · intro w hSw
        (try dsimp only at hSw)
        go_simp
        all_goals with_reducible rfl
      try simp only [Act.put, List.getElem_toArray, List.getElem_cons_succ, List.getElem_cons_zero, List.setIfInBounds_toArray, List.set_cons_zero, List.set_cons_succ]
      refine wpAnyH_take (i := 18) (v := ?_) rfl (by kernel_rfl) (by kernel_rfl) (by kernel_rfl) (fun _ _ _ h => h) (Or.inl ⟨by rfl, ?_⟩) (by assumption) ?_
      rotate_left
      · intro w hSw
        (try dsimp only at hSw)
        go_simp
        all_goals with_reducible rfl
      try simp only [Act.put, List.getElem_toArray, List.getElem_cons_succ, List.getElem_cons_zero, List.setIfInBounds_toArray, List.set_cons_zero, List.set_cons_succ]
      refine wpAnyH_take (i := 19) (v := ?_) rfl (by kernel_rfl) (by kernel_rfl) (by kernel_rfl) (fun _ _ _ h => h) (Or.inl ⟨by rfl, ?_⟩) (by assumption) ?_
      rotate_left
      · intro w hSw
        (try dsimp only at hSw)
        go_simp
        all_goals with_reducible rfl
      try simp only [Act.put, List.getElem_toArray, List.getElem_cons_succ, List.getElem_cons_zero, List.setIfInBounds_toArray, List.set_cons_zero, List.set_cons_succ]
      refine wpAnyH_done (by kernel_rfl) ?_ _
      clear hHeld
      go_wp2
      go_ret
      exact ⟨rfl, BA.out⟩
    · have hy := hno hf
      have HF := Lib.hid hf
      subst hy
      have nf : (((f : Nat) : Int) == 0) = false := by simpa using hf
      have hf2 : f = 12 ∨ f = 13 := by omega
      clear hback hno herr hby hlb
      rcases hf2 with rfl | rfl
      · go_wp2_with (first | (refine wpList_store_mid (by rfl) 30 (.tmp 11) (.tmp 53) (by rfl) w7.heap.size 0 (evC (ofKind 0) g1 g2 g3 h1 h2 h3) (by rfl) (by rfl) (there_new _ _) (by kernel_rfl) (by kernel_rfl) ?_; rw [HE8.out]) | (refine wpList_load_rowG ?_ 30 (.tmp 11) (by rfl) w7.heap.size (by rfl) 30 (evC (ofKind 0) g1 g2 g3 h1 h2 h3) (0, 0) _ X8.out.cells Try.underlying30 (by rfl) (by kernel_rfl) ?_; focus (first | rfl | (simp [Region.wanted, yielded]; done) | (simp [Region.wanted, yielded, *]; done))))
        refine (same_to (evSame_iff.2 rfl) X8.out.mem (evm_lit (ofKind64 i64_0) rfl rfl rfl)).mono ?_
        rintro r w9 ⟨rfl, hb⟩
        have B9 := Lib.hid (bel2 B8.out hb)
        clear hb
        go_wp2
        go_ret
        exact ⟨rfl, B9.out⟩
      · go_wp2_with (first | (refine wpList_store_mid (by rfl) 30 (.tmp 11) (.tmp 53) (by rfl) w7.heap.size 0 (evC (ofKind 0) g1 g2 g3 h1 h2 h3) (by rfl) (by rfl) (there_new _ _) (by kernel_rfl) (by kernel_rfl) ?_; rw [HE8.out]) | (refine wpList_load_rowG ?_ 30 (.tmp 11) (by rfl) w7.heap.size (by rfl) 30 (evC (ofKind 0) g1 g2 g3 h1 h2 h3) (0, 0) _ X8.out.cells Try.underlying30 (by rfl) (by kernel_rfl) ?_; focus (first | rfl | (simp [Region.wanted, yielded]; done) | (simp [Region.wanted, yielded, *]; done))))
        refine (same_to (evSame_iff.2 rfl) X8.out.mem (evm_lit (ofKind64 i64_0) rfl rfl rfl)).mono ?_
        rintro r w9 ⟨rfl, hb⟩
        have B9 := Lib.hid (bel2 B8.out hb)
        clear hb
        go_wp2
        go_ret
        exact ⟨rfl, B9.out⟩
  have hg0 : getR e.kind (putR e) = (e, 0) := by rw [put_right hr V4.out.mem.v64]; exact get_put hr V4.out.mem.v64
  have hpos : 0 < (putR e).length := by rw [put_right hr V4.out.mem.v64]; exact code_pos hr
  have hple := put_len V4.out.mem.v64
  have n1 : ¬ (putR e).length < 1 := by omega
  have d2 : decide (((putR e).length : Int) < 1) = false := by simp; omega
  have k0 : w4.cell? ⟨w.heap.size, 0, none⟩ = some (.int .i64 e.kind) := evC_cell V4.out.cells 0 _ rfl
  clear hr
  go_wp2_with fail
  refine (get_to hg0 (V4.out.mem.v64.nums _ (by simp)) S4.out (by omega)).mono ?_
  rintro r w5 ⟨d1_, d2_, d3_, f1, f2, f3, rfl, hm5, hb5⟩
  obtain ⟨w6, e6, x6, b6⟩ := new_var hm5
  have X6 := Lib.hid x6
  have HE6 := Lib.hid e6
  have V6 := Lib.hid ((V4.out.on hb5).on b6)
  have B6 := Lib.hid (bel2 (bel2 B4.out hb5) b6)
  clear hm5 hb5 e6 x6 b6 V4 S4 B4 hg0 k0 hple
  go_wp2_with (first | (refine wpList_store_mid (by rfl) 30 (.tmp 9) (.tmp 31) (by rfl) w5.heap.size 0 (evC e d1_ d2_ d3_ f1 f2 f3) (by rfl) (by rfl) (there_new _ _) (by kernel_rfl) (by kernel_rfl) ?_; rw [HE6.out]) | (refine wpList_load_row (by rfl) 30 (.tmp 9) (by rfl) w5.heap.size (by rfl) 30 (evC e d1_ d2_ d3_ f1 f2 f3) (0, 0) _ X6.out.cells Try.underlying30 (by rfl) (by kernel_rfl) ?_) | (refine wpList_load_row (by rfl) 30 (.tmp 3) (by rfl) w.heap.size (by rfl) 30 (evC e a1 a2 a3 c1 c2 c3) (0, 0) _ V6.out.cells Try.underlying30 (by rfl) (by kernel_rfl) ?_))
  refine (same_to (evSame_iff.2 rfl) X6.out.mem V6.out.mem).mono ?_
  rintro r w7 ⟨rfl, hb7⟩
  have B7 := Lib.hid (bel2 B6.out hb7)
  clear hb7 B6 X6 V6 HE6
  have B6 := B7
  clear B7
  go_wp2_with fail
  refine (get_any kind HS.out.1 ((HS.out.2.below B6.out (Nat.le_refl _)).more B6.out.size) (by have := HL.out; omega)).mono ?_
  rintro r w7 ⟨g1, g2, g3, h1, h2, h3, rfl, hm7, hb7⟩
  obtain ⟨w8, e8, x8, b8⟩ := new_var hm7
  have B8 := Lib.hid (bel2 (bel2 B6.out hb7) b8)
  have hby := HS.out.2.byte
  have hlb := HS.out.2.length
  have hback := get_back (k := kind) (bs := bs) hby
  have hno := get_no (k := kind) (bs := bs) hby
  have herr := get_err kind bs
  generalize getR kind bs = g at *
  obtain ⟨y, f⟩ := g
  simp only at hback hno herr x8 e8
  have X8 := Lib.hid x8
  have HE8 := Lib.hid e8
  have S8 := Lib.hid ((HS.out.2.below B8.out (Nat.le_refl _)).more B8.out.size)
  clear hm7 hb7 b8 e8 x8 B6
  by_cases hf : f = 0
  · have hb := hback hf
    subst hf
    have hp : putR y = bs := by rw [put_right hb.1 X8.out.mem.v64]; exact hb.2.2
    have HP := Lib.hid (And.intro hb hp)
    have HLB := Lib.hid hlb
    clear hback hno herr hb hp hby hlb
    go_wp2_with (first | (refine wpList_store_mid (by rfl) 30 (.tmp 11) (.tmp 53) (by rfl) w7.heap.size 0 (evC y g1 g2 g3 h1 h2 h3) (by rfl) (by rfl) (there_new _ _) (by kernel_rfl) (by kernel_rfl) ?_; rw [HE8.out]))
    have s1 := X8.out.cells
    have s2 : w8.cell? ⟨w7.heap.size, 0, none⟩ = some (.int .i64 kind) := kind_at X8.out HP.out.1.2.1
    have s3 := run_strv S8.out
    refine wp_region_held_drew (S := fun x => x.heap[w7.heap.size]? = some (.cells (evC y g1 g2 g3 h1 h2 h3) 30 (0, 0)) ∧ x.cell? ⟨w7.heap.size, 0, none⟩ = some (.int .i64 kind) ∧ (convert 28 9 (.slice ab lb cb)).run Try.prog x = .ok (.string (strOf bs)) x) (by kernel_rfl) ⟨s1, s2, run_strv (show Sl w8.drew w8.drew.heap.size ab lb cb bs from S8.out.drew)⟩ (fun hHeld => ?_)
    clear s1 s2 s3
    refine wpAnyH_take (i := 0) (v := ?_) rfl (by kernel_rfl) (by kernel_rfl) (by kernel_rfl) (fun _ _ _ h => h) (Or.inl ⟨by rfl, ?_⟩) (by assumption) ?_
    rotate_left
    · intro w hSw
      (try dsimp only at hSw)
      go_simp
      all_goals with_reducible rfl
    try simp only [Act.put, List.getElem_toArray, List.getElem_cons_succ, List.getElem_cons_zero, List.setIfInBounds_toArray, List.set_cons_zero, List.set_cons_succ]
    refine wpAnyH_take (i := 1) (v := ?_) rfl (by kernel_rfl) (by kernel_rfl) (by kernel_rfl) (fun _ _ _ h => h) (Or.inl ⟨by rfl, ?_⟩) (by assumption) ?_
    rotate_left
    · intro w hSw
      (try dsimp only at hSw)
      go_simp
      all_goals with_reducible rfl
    try simp only [Act.put, List.getElem_toArray, List.getElem_cons_succ, List.getElem_cons_zero, List.setIfInBounds_toArray, List.set_cons_zero, List.set_cons_succ]
    refine wpAnyH_take (i := 2) (v := .agg (evC y g1 g2 g3 h1 h2 h3)) rfl (by kernel_rfl) (by kernel_rfl) (by kernel_rfl) (fun _ _ _ h => h) (Or.inl ⟨by rfl, fun w hS => exec_load_row 30 (.tmp 11) rfl w7.heap.size rfl 30 (evC y g1 g2 g3 h1 h2 h3) (0, 0) _ hS.1 Try.underlying30 rfl (by kernel_rfl)⟩) (by assumption) ?_
    try simp only [Act.put, List.getElem_toArray, List.getElem_cons_succ, List.getElem_cons_zero, List.setIfInBounds_toArray, List.set_cons_zero, List.set_cons_succ]
    refine wpAnyH_ready (rs := [3]) (by kernel_rfl) (by simp) ?_
    refine AllReadyH.cons rfl (fun K hK => ?_) AllReadyH.nil
    rw [if_pos (by rfl)]
    go_simp
    go_at_call 13
    refine (right_to HP.out.1.1 (X8.out.on (Below.drew (Below.refl _ _))).mem).mono ?_
    rintro r w9 ⟨rfl, h9⟩
    have X9 := Lib.hid ((X8.out.on (Below.drew (Below.refl _ _))).on h9)
    have S9 := Lib.hid ((S8.out.drew.below h9 (Nat.le_refl _)).more h9.size)
    have B9 := Lib.hid (bel2 (Below.drew B8.out) h9)
    clear h9 X8 S8 B8
    refine hK.out _ _ ?_ (fun hHeld => ?_)
    · exact ⟨X9.out.cells, kind_at X9.out HP.out.1.2.1, run_strv S9.out⟩
    clear hK K
    try simp only [Act.put, List.getElem_toArray, List.getElem_cons_succ, List.getElem_cons_zero, List.setIfInBounds_toArray, List.set_cons_zero, List.set_cons_succ]
    refine wpAnyH_take (i := 4) (v := ?_) rfl (by kernel_rfl) (by kernel_rfl) (by kernel_rfl) (fun _ _ _ h => h) (Or.inl ⟨by rfl, ?_⟩) (by assumption) ?_
    rotate_left
    · intro w hSw
      (try dsimp only at hSw)
      go_simp
      all_goals with_reducible rfl
    try simp only [Act.put, List.getElem_toArray, List.getElem_cons_succ, List.getElem_cons_zero, List.setIfInBounds_toArray, List.set_cons_zero, List.set_cons_succ]
    refine wpAnyH_take (i := 5) (v := ?_) rfl (by kernel_rfl) (by kernel_rfl) (by kernel_rfl) (fun _ _ _ h => h) (Or.inl ⟨by rfl, ?_⟩) (by assumption) ?_
    rotate_left
    · intro w hSw
      (try dsimp only at hSw)
      go_simp
      all_goals with_reducible rfl
    try simp only [Act.put, List.getElem_toArray, List.getElem_cons_succ, List.getElem_cons_zero, List.setIfInBounds_toArray, List.set_cons_zero, List.set_cons_succ]
    refine wpAnyH_take (i := 6) (v := ?_) rfl (by kernel_rfl) (by kernel_rfl) (by kernel_rfl) (fun _ _ _ h => h) (Or.inl ⟨by rfl, ?_⟩) (by assumption) ?_
    rotate_left
    · intro w hSw
      (try dsimp only at hSw)
      go_simp
      all_goals with_reducible rfl
    try simp only [Act.put, List.getElem_toArray, List.getElem_cons_succ, List.getElem_cons_zero, List.setIfInBounds_toArray, List.set_cons_zero, List.set_cons_succ]
    refine wpAnyH_take (i := 7) (v := ?_) rfl (by kernel_rfl) (by kernel_rfl) (by kernel_rfl) (fun _ _ _ h => h) (Or.inl ⟨by rfl, ?_⟩) (by assumption) ?_
    rotate_left
    · intro w hSw
      (try dsimp only at hSw)
      go_simp
      all_goals with_reducible rfl
    try simp only [Act.put, List.getElem_toArray, List.getElem_cons_succ, List.getElem_cons_zero, List.setIfInBounds_toArray, List.set_cons_zero, List.set_cons_succ]
    refine wpAnyH_take (i := 8) (v := ?_) rfl (by kernel_rfl) (by kernel_rfl) (by kernel_rfl) (fun _ _ _ h => h) (Or.inl ⟨by rfl, ?_⟩) (by assumption) ?_
    rotate_left
    · intro w hSw
      (try dsimp only at hSw)
      go_simp
      all_goals with_reducible rfl
    try simp only [Act.put, List.getElem_toArray, List.getElem_cons_succ, List.getElem_cons_zero, List.setIfInBounds_toArray, List.set_cons_zero, List.set_cons_succ]
    refine wpAnyH_take (i := 9) (v := ?_) rfl (by kernel_rfl) (by kernel_rfl) (by kernel_rfl) (fun _ _ _ h => h) (Or.inl ⟨by rfl, ?_⟩) (by assumption) ?_
    rotate_left
    · intro w hSw
      (try dsimp only at hSw)
      go_simp
      all_goals with_reducible rfl
    try simp only [Act.put, List.getElem_toArray, List.getElem_cons_succ, List.getElem_cons_zero, List.setIfInBounds_toArray, List.set_cons_zero, List.set_cons_succ]
    refine wpAnyH_take (i := 10) (v := ?_) rfl (by kernel_rfl) (by kernel_rfl) (by kernel_rfl) (fun _ _ _ h => h) (Or.inl ⟨by rfl, ?_⟩) (by assumption) ?_
    rotate_left
    · intro w hSw
      (try dsimp only at hSw)
      go_simp
      all_goals with_reducible rfl
    try simp only [Act.put, List.getElem_toArray, List.getElem_cons_succ, List.getElem_cons_zero, List.setIfInBounds_toArray, List.set_cons_zero, List.set_cons_succ]
    refine wpAnyH_take (i := 11) (v := ?_) rfl (by kernel_rfl) (by kernel_rfl) (by kernel_rfl) (fun _ _ _ h => h) (Or.inl ⟨by rfl, ?_⟩) (by assumption) ?_
    rotate_left
    · intro w hSw
      (try dsimp only at hSw)
      go_simp
      all_goals with_reducible rfl
    try simp only [Act.put, List.getElem_toArray, List.getElem_cons_succ, List.getElem_cons_zero, List.setIfInBounds_toArray, List.set_cons_zero, List.set_cons_succ]
    refine wpAnyH_take (i := 12) (v := .agg (evC y g1 g2 g3 h1 h2 h3)) rfl (by kernel_rfl) (by kernel_rfl) (by kernel_rfl) (fun _ _ _ h => h) (Or.inl ⟨by rfl, fun w hS => exec_load_row 30 (.tmp 11) rfl w7.heap.size rfl 30 (evC y g1 g2 g3 h1 h2 h3) (0, 0) _ hS.1 Try.underlying30 rfl (by kernel_rfl)⟩) (by assumption) ?_
    try simp only [Act.put, List.getElem_toArray, List.getElem_cons_succ, List.getElem_cons_zero, List.setIfInBounds_toArray, List.set_cons_zero, List.set_cons_succ]
    refine wpAnyH_take (i := 15) (v := ?_) rfl (by kernel_rfl) (by kernel_rfl) (by kernel_rfl) (fun _ _ _ h => h) (Or.inl ⟨by rfl, ?_⟩) (by assumption) ?_
    rotate_left
    · intro w hSw
      (try dsimp only at hSw)
      go_simp
      all_goals with_reducible rfl
    try simp only [Act.put, List.getElem_toArray, List.getElem_cons_succ, List.getElem_cons_zero, List.setIfInBounds_toArray, List.set_cons_zero, List.set_cons_succ]
    refine wpAnyH_take (i := 16) (v := ?_) rfl (by kernel_rfl) (by kernel_rfl) (by kernel_rfl) (fun _ _ _ h => h) (Or.inl ⟨by rfl, ?_⟩) (by assumption) ?_
    rotate_left
    · intro w hSw
      (try dsimp only at hSw)
      go_simp
      all_goals with_reducible rfl
    try simp only [Act.put, List.getElem_toArray, List.getElem_cons_succ, List.getElem_cons_zero, List.setIfInBounds_toArray, List.set_cons_zero, List.set_cons_succ]
    refine wpAnyH_ready (rs := [13]) (by kernel_rfl) (by simp) ?_
    refine AllReadyH.cons rfl (fun K hK => ?_) AllReadyH.nil
    rw [if_pos (by rfl)]
    go_simp
    go_at_call 19
    refine (put_to HP.out.2 X9.out.mem (by have := right_len HP.out.1.1; omega)).mono ?_
    rintro r wA ⟨pa, pc, rfl, hsA, hbA⟩
    have XA := Lib.hid (X9.out.on hbA)
    have SA := Lib.hid ((S9.out.below hbA (Nat.le_refl _)).more hbA.size)
    have BA := Lib.hid (bel2 B9.out hbA)
    have qA := run_strv hsA
    clear hsA hbA X9 S9 B9
    refine hK.out _ _ ?_ (fun hHeld => ?_)
    · exact ⟨XA.out.cells, kind_at XA.out HP.out.1.2.1, run_strv SA.out⟩
    clear hK K
    try simp only [Act.put, List.getElem_toArray, List.getElem_cons_succ, List.getElem_cons_zero, List.setIfInBounds_toArray, List.set_cons_zero, List.set_cons_succ]
    refine wpAnyH_ready (rs := [14]) (by kernel_rfl) (by simp) ?_
    refine AllReadyH.cons rfl (fun K hK => ?_) AllReadyH.nil
    rw [if_pos (by rfl)]
    go_simp
    refine hK.out _ _ ?_ (fun hHeld => ?_)
    · exact ⟨XA.out.cells, kind_at XA.out HP.out.1.2.1, run_strv SA.out⟩
    clear hK K
    try simp only [Act.put, List.getElem_toArray, List.getElem_cons_succ, List.getElem_cons_zero, List.setIfInBounds_toArray, List.set_cons_zero, List.set_cons_succ]
    clear qA
    refine wpAnyH_take (i := 17) (v := ?_) rfl (by kernel_rfl) (by kernel_rfl) (by kernel_rfl) (fun _ _ _ h => h) (Or.inl ⟨by rfl, ?_⟩) (by assumption) ?_
    rotate_left
    · intro w hSw
      (try dsimp only at hSw)
      go_simp
      all_goals with_reducible rfl
    try simp only [Act.put, List.getElem_toArray, List.getElem_cons_succ, List.getElem_cons_zero, List.setIfInBounds_toArray, List.set_cons_zero, List.set_cons_succ]
    refine wpAnyH_take (i := 18) (v := ?_) rfl (by kernel_rfl) (by kernel_rfl) (by kernel_rfl) (fun _ _ _ h => h) (Or.inl ⟨by rfl, ?_⟩) (by assumption) ?_
    rotate_left
    · intro w hSw
      (try dsimp only at hSw)
      go_simp
      all_goals with_reducible rfl
    try simp only [Act.put, List.getElem_toArray, List.getElem_cons_succ, List.getElem_cons_zero, List.setIfInBounds_toArray, List.set_cons_zero, List.set_cons_succ]
    refine wpAnyH_take (i := 19) (v := ?_) rfl (by kernel_rfl) (by kernel_rfl) (by kernel_rfl) (fun _ _ _ h => h) (Or.inl ⟨by rfl, ?_⟩) (by assumption) ?_
    rotate_left
    · intro w hSw
      (try dsimp only at hSw)
      go_simp
      all_goals with_reducible rfl
    try simp only [Act.put, List.getElem_toArray, List.getElem_cons_succ, List.getElem_cons_zero, List.setIfInBounds_toArray, List.set_cons_zero, List.set_cons_succ]
    refine wpAnyH_done (by kernel_rfl) ?_ _
    clear hHeld
    go_wp2
    go_ret
    exact ⟨rfl, BA.out⟩
  · have hy := hno hf
    have HF := Lib.hid hf
    subst hy
    have nf : (((f : Nat) : Int) == 0) = false := by simpa using hf
    have hf2 : f = 12 ∨ f = 13 := by omega
    clear hback hno herr hby hlb
    rcases hf2 with rfl | rfl
    · go_wp2_with (first | (refine wpList_store_mid (by rfl) 30 (.tmp 11) (.tmp 53) (by rfl) w7.heap.size 0 (evC (ofKind 0) g1 g2 g3 h1 h2 h3) (by rfl) (by rfl) (there_new _ _) (by kernel_rfl) (by kernel_rfl) ?_; rw [HE8.out]) | (refine wpList_load_rowG ?_ 30 (.tmp 11) (by rfl) w7.heap.size (by rfl) 30 (evC (ofKind 0) g1 g2 g3 h1 h2 h3) (0, 0) _ X8.out.cells Try.underlying30 (by rfl) (by kernel_rfl) ?_; focus (first | rfl | (simp [Region.wanted, yielded]; done) | (simp [Region.wanted, yielded, *]; done))))
      refine (same_to (evSame_iff.2 rfl) X8.out.mem (evm_lit (ofKind64 i64_0) rfl rfl rfl)).mono ?_
      rintro r w9 ⟨rfl, hb⟩
      have B9 := Lib.hid (bel2 B8.out hb)
      clear hb
      go_wp2
      go_ret
      exact ⟨rfl, B9.out⟩
    · go_wp2_with (first | (refine wpList_store_mid (by rfl) 30 (.tmp 11) (.tmp 53) (by rfl) w7.heap.size 0 (evC (ofKind 0) g1 g2 g3 h1 h2 h3) (by rfl) (by rfl) (there_new _ _) (by kernel_rfl) (by kernel_rfl) ?_; rw [HE8.out]) | (refine wpList_load_rowG ?_ 30 (.tmp 11) (by rfl) w7.heap.size (by rfl) 30 (evC (ofKind 0) g1 g2 g3 h1 h2 h3) (0, 0) _ X8.out.cells Try.underlying30 (by rfl) (by kernel_rfl) ?_; focus (first | rfl | (simp [Region.wanted, yielded]; done) | (simp [Region.wanted, yielded, *]; done))))
      refine (same_to (evSame_iff.2 rfl) X8.out.mem (evm_lit (ofKind64 i64_0) rfl rfl rfl)).mono ?_
      rintro r w9 ⟨rfl, hb⟩
      have B9 := Lib.hid (bel2 B8.out hb)
      clear hb
      go_wp2
      go_ret
      exact ⟨rfl, B9.out⟩
end Go.Proofs.Ytjhondlcnpappaa
