/- The program's told: frames that stand one behind the other, with where they begin. -/
import Derived.Test.YtiiellclnmakpaaDoorSgT
import Derived.Test.YtiiellclnmakpaaDoorRange
namespace Go.Proofs.YtiiellclnmakpaaDoor
open Go.RowKit Go.Shelf
open Crc Frm
attribute [local go_sem] Oper.semAt_some

/-- What is told from a place on. -/
def toldN : Nat → List Nat → Nat → List (Nat × Fr)
  | 0, _, _ => []
  | k + 1, bs, at_ => if (get (bs.drop at_)).2.2 = 0 then (at_, (get (bs.drop at_)).1) :: toldN k bs (at_ + (get (bs.drop at_)).2.1) else []
def tolds (bs : List Nat) (at_ : Nat) : List (Nat × Fr) := toldN (bs.length + 1) bs at_
theorem get_step {bs : List Nat} {at_ : Nat} (h : (get (bs.drop at_)).2.2 = 0) : 11 ≤ (get (bs.drop at_)).2.1 ∧ at_ + (get (bs.drop at_)).2.1 ≤ bs.length := by
  obtain ⟨_, hg, hl, _, _⟩ := get_ok _ h
  rw [List.length_drop] at hl
  rw [hg]
  simp only
  omega
theorem toldN_same : ∀ (k j : Nat) (bs : List Nat) (at_ : Nat), bs.length + 1 - at_ ≤ k → bs.length + 1 - at_ ≤ j → toldN k bs at_ = toldN j bs at_ := by
  intro k
  induction k with
  | zero =>
    intro j bs at_ hk hj
    cases j with
    | zero => rfl
    | succ j =>
      have hno : ¬ (get (bs.drop at_)).2.2 = 0 := fun h => by have := get_step h; omega
      simp only [toldN]
      rw [if_neg hno]
  | succ k ih =>
    intro j bs at_ hk hj
    cases j with
    | zero =>
      have hno : ¬ (get (bs.drop at_)).2.2 = 0 := fun h => by have := get_step h; omega
      simp only [toldN]
      rw [if_neg hno]
    | succ j =>
      simp only [toldN]
      by_cases h : (get (bs.drop at_)).2.2 = 0
      · have := get_step h
        rw [if_pos h, if_pos h, ih j bs _ (by omega) (by omega)]
      · rw [if_neg h, if_neg h]
theorem tolds_yes {bs : List Nat} {at_ : Nat} (h : (get (bs.drop at_)).2.2 = 0) : tolds bs at_ = (at_, (get (bs.drop at_)).1) :: tolds bs (at_ + (get (bs.drop at_)).2.1) := by
  unfold tolds
  rw [show toldN (bs.length + 1) bs at_ = (at_, (get (bs.drop at_)).1) :: toldN bs.length bs (at_ + (get (bs.drop at_)).2.1) from by simp only [toldN]; rw [if_pos h]]
  have := get_step h
  rw [toldN_same bs.length (bs.length + 1) bs _ (by omega) (by omega)]
theorem tolds_no {bs : List Nat} {at_ : Nat} (h : ¬ (get (bs.drop at_)).2.2 = 0) : tolds bs at_ = [] := by
  unfold tolds
  simp only [toldN]
  rw [if_neg h]

/-- A frame that is told, with where its body lies. -/
structure TF where
  at_ : Nat
  f : Fr
  ba : Option Addr
  bc : Nat
def TF.pure (x : TF) : Nat × Fr := (x.at_, x.f)
def TF.enc (x : TF) : Array Value := #[.int .i64 (x.at_ : Int), .agg #[.int .i64 x.f.ty, .int .i64 x.f.seq, .slice x.ba x.f.body.length x.bc]]
def TF.Lies (x : TF) (W : World) : Prop := Sl W W.heap.size x.ba x.f.body.length x.bc x.f.body

theorem Kpt.of_below {n₀ B : Nat} {t : TypeId} {X Y : World} (hb : Below X.heap.size X Y) (hn : n₀ ≤ X.heap.size) : Kpt n₀ B t X Y := ⟨hb.mono hn, fun _ hv => (hb.block B hv.lt).trans hv⟩
theorem get_in (F : Fence) (hF : F = Fence.wide) (m : Nat) {bs : List Nat} {f : Fr} {n er : Nat} (hg : get bs = (f, n, er)) (a : Option Addr) (len cap : Nat) (w : World) (hs : Sl w w.heap.size a len cap bs) :
    CallsIn F m Tryd.prog 38 #[.slice a len cap] w fun e w' => ∃ ba bc, e = .returned (.tuple #[.agg #[.int .i64 f.ty, .int .i64 f.seq, .slice ba f.body.length bc], .int .i64 (n : Int), .int .i64 (er : Int)]) ∧
      Sl w' w'.heap.size ba f.body.length bc f.body ∧ Below w.heap.size w w' ∧ (∀ b o, ba = some ⟨b, o, none⟩ → w.heap.size ≤ b) := by
  subst hF
  exact callsIn_wide.2 (get_of hg a len cap w hs)

set_option maxRecDepth 100000 in
set_option maxHeartbeats 4000000 in
theorem told1_in (F : Fence) (hF : F = Fence.wide) (n : Nat) (hn : 1 ≤ n) (l Bf Bs n₀ : Nat) (a : Option Addr) (len cap : Nat) (bs : List Nat) (from_ : Nat) (hfr : from_ ≤ len) (J Jx : List TF → World → Prop)
    (W : World) (hJ : AbidesFrom W.heap.size J)
    (hY : ∀ pre (x : TF) X, J pre X → x.Lies X → pre.length < (tolds bs from_).length → YieldAt F (n - 1) Tryd.prog l x.enc X fun e Y => (e = .returned (.bool true) ∧ J (pre ++ [x]) Y ∧ Kpt n₀ Bs 22 X Y) ∨ (e = .returned (.bool false) ∧ Jx (pre ++ [x]) Y))
    (hBf : W.cell? ⟨Bf, 0, none⟩ = some (.int .i64 (from_ : Int))) (hBs : Boxed W Bs 22 (.slice a len cap)) (hn₀ : n₀ ≤ W.heap.size) (hs : Sl W n₀ a len cap bs) (h0 : J [] W) :
    CallsIn F n Tryd.prog 49 #[.func (.yield l) #[] #[], .pointer (some ⟨Bf, 0, none⟩), .pointer (some ⟨Bs, 0, none⟩)] W fun e Y => (∃ v, e = .returned v) ∧
      ((∃ xs, xs.map TF.pure = tolds bs from_ ∧ J xs Y) ∨ (∃ pre, (∃ post, pre.map TF.pure ++ post = tolds bs from_) ∧ Jx pre Y)) := by
  have hf1 : F.fn 49 := by subst hF; trivial
  have hf2 : F.fn 38 := by subst hF; trivial
  have hro : F.round = none := by subst hF; rfl
  have HF := Lib.hid hF
  clear hF
  have hbl := hs.length
  have hle := hs.le
  have hmx := hs.max
  unfold maxLen at hmx
  refine callsIn_of_wp Tryd.func49 rfl hf1 ?_ hro
  simp only [Tryd.ntmps49, List.size_toArray, List.length_cons, List.length_nil, Nat.reduceAdd, Nat.reduceSub, Array.replicate_succ, Array.replicate_zero, List.push_toArray, List.append_toArray, List.nil_append, List.cons_append]
  gi_wp2
  gi_loopw [4] (fun i wr => ∃ (k : Nat) (pre : List TF), k ≤ len ∧ i = .int .i64 (k : Int) ∧ J pre wr ∧ Kpt n₀ Bs 22 W wr ∧ W.heap.size ≤ wr.heap.size ∧ pre.map TF.pure ++ tolds bs k = tolds bs from_)
    (fun i _ => len - (intOf i).toNat)
  case atStart => exact ⟨from_, [], hfr, rfl, h0, Kpt.refl _ _ _ _, Nat.le_refl _, rfl⟩
  case round =>
    obtain ⟨k, pre, hk, rfl, hJs, hnx, hsz, hpre⟩ := hrel
    have hB1 := (hnx.2 _ hBs).cell
    have hs1 := (hs.below hnx.1 (Nat.le_refl _)).more (B' := wr.heap.size) (by omega)
    have hs2 := hs1.from_ hk
    have c1 : ∀ w, (Instr.slice 22 (.slice a len cap) (some (.int .i64 (k : Int))) none none).run Tryd.prog w = .ok (.slice (fromA a cap k) (len - k) (cap - k)) w :=
      run_cut_from (P := Tryd.prog) 22 5 Tryd.underlying22 info_u8 a len cap k hk
    generalize fromA a cap k = a2 at c1 hs2
    generalize hl2 : len - k = l2 at c1 hs2
    generalize cap - k = k2 at c1 hs2
    have hyes := fun h => Lib.hid (And.intro (tolds_yes (bs := bs) (at_ := k) h) (get_step (bs := bs) (at_ := k) h))
    have hno := fun h => Lib.hid (tolds_no (bs := bs) (at_ := k) h)
    rcases hg : get (bs.drop k) with ⟨f, m, er⟩
    rw [hg] at hyes hno
    have G := Lib.hid (get_in F HF.out (n - 1) hg a2 l2 k2 wr hs2)
    have Hpre := Lib.hid hpre
    have HJ := Lib.hid (And.intro hJs hnx)
    clear hg hs1 hs2 hl2 hpre hJs hnx hs
    by_cases h0' : er = 0
    · subst h0'
      have Hy := Lib.hid (hyes rfl).out
      clear hyes hno
      have hm1 := Hy.out.2.1
      have hm2 := Hy.out.2.2
      rw [hbl] at hm2
      simp only at hm1 hm2
      have Hy1 := Lib.hid Hy.out.1
      clear Hy
      gi_wp2_with fail
      refine G.out.mono ?_
      rintro e w2 ⟨ba, bc, rfl, hsb, hb2, _⟩
      have hb3 : Below wr.heap.size wr (w2.alloc (.cells #[.int .i64 f.ty, .int .i64 f.seq, .slice ba f.body.length bc] 36)) := hb2.alloc hb2.size _
      have hJ3 := hJ _ _ _ none HJ.out.1 (grown_of_below hb3 none) (fun r e => by cases e)
      have hl3 : TF.Lies ⟨k, f, ba, bc⟩ (w2.alloc (.cells #[.int .i64 f.ty, .int .i64 f.seq, .slice ba f.body.length bc] 36)) := (hsb.below ((Below.refl _ _).alloc (Nat.le_refl _) _) (Nat.le_refl _)).more (by simp)
      have hlen : pre.length < (tolds bs from_).length := by
        rw [← Hpre.out, Hy1.out]; simp
      obtain ⟨fn, tmps, assign, body, hy, hR⟩ := hY pre ⟨k, f, ba, bc⟩ _ hJ3 hl3 hlen
      simp only [TF.enc] at hy
      have HK := Lib.hid (HJ.out.2.trans (Kpt.of_below hb3 (by omega)))
      have hz3 := hb3.size
      have HR := Lib.hid hR
      clear hJ3 hl3 hb3 hsb hb2 hR HJ
      gi_wp2
      refine HR.out.mono ?_
      rintro e Y (⟨rfl, hJ4, hk4⟩ | ⟨rfl, hJx4⟩)
      · have hz4 := hk4.1.size
        have H4 := Lib.hid (And.intro hJ4 (HK.out.trans hk4))
        clear hJ4 hk4 HK HR hy
        gi_wp2
        go_roundw
        case rel =>
          refine ⟨k + m, pre ++ [⟨k, f, ba, bc⟩], by omega, by go_num, H4.out.1, H4.out.2, Nat.le_trans hsz (Nat.le_trans hz3 hz4), ?_⟩
          rw [← Hpre.out, Hy1.out, List.map_append, List.append_assoc]
          rfl
        case measure => simp [intOf]; omega
      · have H4 := Lib.hid hJx4
        clear hJx4 HK HR hy
        gi_wp2
        refine bodyPost_ret (results_none rfl _ _ _) rfl ?_
        exact ⟨⟨_, rfl⟩, .inr ⟨_, ⟨tolds bs (k + m), by rw [← Hpre.out, Hy1.out, List.map_append, List.append_assoc]; rfl⟩, H4.out⟩⟩
    · have Hn := Lib.hid (hno h0').out
      have hr0 : ((er : Int) != 0) = true := by simp; omega
      clear hyes hno hY
      gi_wp2_with fail
      refine G.out.mono ?_
      rintro e w2 ⟨ba, bc, rfl, hsb, hb2, _⟩
      have hJ3 := Lib.hid (hJ _ _ _ none HJ.out.1 (grown_of_below (hb2.alloc hb2.size (.cells #[.int .i64 f.ty, .int .i64 f.seq, .slice ba f.body.length bc] 36)) none) (fun r e => by cases e))
      clear hsb hb2 HJ
      gi_wp2
      refine ⟨fun _ h => (by cases h), ?_⟩
      gi_wp2
      refine bodyPost_ret (results_none rfl _ _ _) rfl ?_
      exact ⟨⟨_, rfl⟩, .inl ⟨_, by rw [← Hpre.out, Hn.out]; simp, hJ3.out⟩⟩
end Go.Proofs.YtiiellclnmakpaaDoor
