/- Contracts of sched's calls, of the document's, and slices.Backward over slots. -/
import Derived.Test.YtpgjjdpblilljaaSdA
import Derived.Test.YtpgjjdpblilljaaPrw
import Derived.Test.YtpgjjdpblilljaaLine
import Derived.Test.YtpgjjdpblilljaaProg
import Derived.Test.YtpgjjdpblilljaaChecked
import Derived.RangeFuncNested
import Derived.RangeFuncLeaves
import Derived.Shelf.Abstract
import Derived.OwnWalkIn
import Derived.TacticsInMore
import Derived.LoopNIn
import Derived.LoopIn
namespace Go.Proofs.Ytpgjjdpblilljaa
set_option linter.unusedSimpArgs false
open Go.RowKit Go.Shelf
open Wir Evn Stp Sdl
attribute [local go_sem] Oper.semAt_some
set_option linter.unusedVariables false

set_option maxRecDepth 100000 in
theorem sdat_any {p : Int} (hp : 1 ≤ p) (hp2 : p ≤ 1099511627776) (t : Int) (w : World) :
    Calls Try.prog 57 #[.int .i64 p, .int .i64 t] w fun e w' => e = .returned (.int .i64 (tod p t)) ∧ w' = w := by
  obtain ⟨h1, h2, h3, h4⟩ := tod_tmod hp t
  have H3 := Lib.hid h3
  have H4 := Lib.hid h4
  have hp0 : p ≠ 0 := by omega
  have hp1 : ¬ p < 1 := by omega
  have e0 : IntKind.i64.wrap (t.tmod p) = t.tmod p := by rw [IntKind.wrap_i64]; omega
  have e1 : IntKind.i64.wrap (t.tmod p + p) = t.tmod p + p := by rw [IntKind.wrap_i64]; omega
  clear h3 h4
  by_cases hn : t.tmod p < 0
  · have HT := Lib.hid (H4.out hn)
    clear H3 H4
    go_enter Try.func57, Try.ntmps57
    go_wp2
    go_ret
    exact ⟨ret_i64 HT.out.symm, rfl⟩
  · have HT := Lib.hid (H3.out (by omega))
    clear H3 H4
    go_enter Try.func57, Try.ntmps57
    go_wp2
    go_ret
    exact ⟨ret_i64 HT.out.symm, rfl⟩
set_option maxRecDepth 100000 in
theorem sdrat_any {p : Int} (hp : 1 ≤ p) (hp2 : p ≤ 1099511627776) (t : Int) (w : World) :
    Calls Try.prog 27 #[.int .i64 p, .int .i64 t] w fun e w' => e = .returned (.int .i64 (tod p t)) ∧ w' = w := by
  obtain ⟨h1, h2, h3, h4⟩ := tod_tmod hp t
  have H3 := Lib.hid h3
  have H4 := Lib.hid h4
  have hp0 : p ≠ 0 := by omega
  have e0 : IntKind.i64.wrap (t.tmod p) = t.tmod p := by rw [IntKind.wrap_i64]; omega
  have e1 : IntKind.i64.wrap (t.tmod p + p) = t.tmod p + p := by rw [IntKind.wrap_i64]; omega
  clear h3 h4
  by_cases hn : t.tmod p < 0
  · have HT := Lib.hid (H4.out hn)
    clear H3 H4
    go_enter Try.func27, Try.ntmps27
    go_wp2
    go_ret
    exact ⟨ret_i64 HT.out.symm, rfl⟩
  · have HT := Lib.hid (H3.out (by omega))
    clear H3 H4
    go_enter Try.func27, Try.ntmps27
    go_wp2
    go_ret
    exact ⟨ret_i64 HT.out.symm, rfl⟩
set_option maxRecDepth 100000 in
set_option maxHeartbeats 800000 in
theorem sdrwant_any {w : World} {a : Option Addr} {n c : Nat} {l : List (Int × Int)} (h : PRow w a n c l) {p : Int} (hp : 1 ≤ p) (hp2 : p ≤ 1099511627776) (t : Int) :
    Calls Try.prog 17 #[.int .i64 p, .slice a n c, .int .i64 t] w fun e w' => e = .returned (.int .i64 (swn l (tod p t))) ∧ w' = w := by
  have hl := h.2
  have hmx := h.1.max
  have hle := h.1.le
  unfold maxLen at hmx
  have HR := Lib.hid h
  have HL := Lib.hid hl
  have AT := Lib.hid (fun x => sdrat_any hp hp2 t x)
  clear h hl
  go_enter Try.func17, Try.ntmps17
  go_wp2_with fail
  refine (AT.out _).mono ?_
  rintro e w9 ⟨rfl, rfl⟩
  generalize hu : tod p t = u at *
  have HU := Lib.hid hu
  clear hu
  go_wp2_with fail
  go_loopw [8, 9] (fun z i wx => ∃ k : Nat, k ≤ n ∧ i = .int .i64 (k : Int) ∧ z = .int .i64 (swnTo l u k) ∧ wx = w9) (fun _ i _ => n - (intOf i).toNat)
  case atStart => exact ⟨0, Nat.zero_le _, rfl, rfl, rfl⟩
  case round =>
    obtain ⟨k, hk, rfl, rfl, rfl⟩ := hrel
    by_cases hlt : k < n
    · have hlt' : (k : Int) < (n : Int) := by omega
      have hk0 : (0 : Int) ≤ (k : Int) := by omega
      obtain ⟨b, o, rfl, hbl, hc⟩ := HR.out.cell (by omega)
      have c0 := (hc k hlt).1
      have c1 := (hc k hlt).2
      have e0 : (l.getD k (0, 0)).1 = ab l k := rfl
      have e1 : (l.getD k (0, 0)).2 = de l k := rfl
      rw [e0] at c0
      rw [e1] at c1
      have HS := Lib.hid (swnTo_succ l u k)
      clear hc hbl e0 e1
      generalize ab l k = x at *
      generalize de l k = y at *
      have HK := Lib.hid hlt
      by_cases hx : x ≤ u
      · have HX := Lib.hid hx
        go_wp2
        go_roundw
        case rel => exact ⟨k + 1, HK.out, by go_num, by rw [HS.out, if_pos HX.out], by trivial⟩
        case measure => have := HK.out; simp [intOf]; omega
      · have HX := Lib.hid hx
        go_wp2
        go_roundw
        case rel => exact ⟨k + 1, HK.out, by go_num, by rw [HS.out, if_neg HX.out], by trivial⟩
        case measure => have := HK.out; simp [intOf]; omega
    · have ek : k = n := by omega
      have hlt' : ¬ (k : Int) < (n : Int) := by omega
      have HE : Hid (swn l u = swnTo l u k) := by show _ = _; unfold swn; rw [HL.out, ek]
      clear ek
      generalize swnTo l u k = f at *
      go_wp2
      go_ret
      exact ⟨ret_i64 (by rw [HU.out]; exact HE.out.symm), rfl⟩

/-- A slice of slots that lies below block B. -/
structure Slts (w : World) (B : Nat) (a : Option Addr) (len cap : Nat) (l : List (Int × Int)) : Prop where
  length : l.length = len
  le : len ≤ cap
  max : cap ≤ maxLen
  at_ : 0 < len → ∃ b o, a = some ⟨b, o, none⟩ ∧ b < B ∧ ∀ (k : Nat) (x : Int × Int), l[k]? = some x → w.cell? ⟨b, o + k * 2, none⟩ = some (.int .i64 x.1) ∧ w.cell? ⟨b, o + k * 2 + 1, none⟩ = some (.int .i64 x.2)
theorem Slts.below {w w' : World} {B B' : Nat} {a : Option Addr} {len cap : Nat} {l : List (Int × Int)} (h : Slts w B a len cap l) (hb : Below B' w w') (hB : B ≤ B') : Slts w' B' a len cap l :=
  ⟨h.length, h.le, h.max, fun hp => by
    obtain ⟨b, o, e, hlt, hc⟩ := h.at_ hp
    refine ⟨b, o, e, by omega, fun k x hx => ?_⟩
    obtain ⟨h1, h2⟩ := hc k x hx
    exact ⟨(hb.cell (p := ⟨b, o + k * 2, none⟩) (by show b < B'; omega)).trans h1, (hb.cell (p := ⟨b, o + k * 2 + 1, none⟩) (by show b < B'; omega)).trans h2⟩⟩
theorem Slts.more {w : World} {B B' : Nat} {a : Option Addr} {len cap : Nat} {l : List (Int × Int)} (h : Slts w B a len cap l) (hB : B ≤ B') : Slts w B' a len cap l := h.below (Below.refl _ _) hB

/-- What has come when k rounds are over: from behind. -/
def sbk (l : List (Int × Int)) (k : Nat) : List (Nat × (Int × Int)) := (List.range k).map fun j => (l.length - 1 - j, l.getD (l.length - 1 - j) (0, 0))
theorem sbk_succ (l : List (Int × Int)) (k : Nat) : sbk l (k + 1) = sbk l k ++ [(l.length - 1 - k, l.getD (l.length - 1 - k) (0, 0))] := by simp [sbk, List.range_succ]
theorem sbk_length (l : List (Int × Int)) (k : Nat) : (sbk l k).length = k := by simp [sbk]

/-- What a round keeps: all below n₀, and one box. -/
def SdKpt (n₀ B : Nat) (t : TypeId) (X Y : World) : Prop := Below n₀ X Y ∧ ∀ v, Boxed X B t v → Boxed Y B t v
theorem SdKpt.trans {n₀ B : Nat} {t : TypeId} {X Y Z : World} (h : SdKpt n₀ B t X Y) (k : SdKpt n₀ B t Y Z) : SdKpt n₀ B t X Z := ⟨h.1.trans k.1, fun v hv => k.2 v (h.2 v hv)⟩
theorem SdKpt.book {n₀ B : Nat} {t : TypeId} {w : World} (hn : n₀ ≤ w.heap.size) (W : World) (l : Nat) (o o' : Obj) (hl : w.heap.size ≤ l) (h : W.heap[l]? = some o) (h1 : o.isCells = false) (h2 : o.isWalk = false) : SdKpt n₀ B t W (W.putObj l o') :=
  ⟨belowK_b hn W l o o' hl h h1 h2, fun v hv => hv.kept (grownBy_putObj' W l o') (fun e => by
    injection e with e
    subst e
    rw [show W.heap[B]? = _ from hv] at h
    injection h with h
    subst h
    cases h1)⟩
theorem SdKpt.refl (n₀ B : Nat) (t : TypeId) (X : World) : SdKpt n₀ B t X X := ⟨Below.refl _ _, fun _ h => h⟩

set_option maxRecDepth 100000 in
set_option maxHeartbeats 2000000 in
theorem sdback1_in (F : Fence) (n : Nat) (hF : F.fn 67) (hro : F.round = none) (hn : 1 ≤ n) (l Bs n₀ : Nat) (a : Option Addr) (len cap : Nat) (xs : List (Int × Int)) (hl : len ≤ 100000) (J Jx : List (Nat × (Int × Int)) → World → Prop)
    (hY : ∀ pre (x : Nat × (Int × Int)) W, J pre W → pre.length < len → YieldAt F (n - 1) Try.prog l #[.int .i64 (x.1 : Int), .agg #[.int .i64 x.2.1, .int .i64 x.2.2]] W fun e W' =>
      (e = .returned (.bool true) ∧ J (pre ++ [x]) W' ∧ SdKpt n₀ Bs 23 W W') ∨ (e = .returned (.bool false) ∧ Jx (pre ++ [x]) W'))
    (W : World) (hBs : Boxed W Bs 23 (.slice a len cap)) (hc : Slts W n₀ a len cap xs) (h0 : J [] W) :
    CallsIn F n Try.prog 67 #[.func (.yield l) #[] #[], .pointer (some ⟨Bs, 0, none⟩)] W fun e W' => (∃ v, e = .returned v) ∧
      ((∃ ys, ys = sbk xs len ∧ J ys W') ∨ (∃ pre, (∃ k, k ≤ len ∧ pre = sbk xs k) ∧ Jx pre W')) := by
  refine callsIn_of_wp Try.func67 rfl hF ?_ hro
  simp only [Try.ntmps67, List.size_toArray, List.length_cons, List.length_nil, Nat.reduceAdd, Nat.reduceSub, Array.replicate_succ, Array.replicate_zero, List.push_toArray, List.append_toArray, List.nil_append, List.cons_append]
  have hB0 := hBs.cell
  gi_wp2
  gi_loopw [3] (fun i wr => ∃ k : Nat, k ≤ len ∧ i = .int .i64 ((len : Int) - 1 - (k : Int)) ∧ J (sbk xs k) wr ∧ SdKpt n₀ Bs 23 W wr)
    (fun i _ => (intOf i + 1).toNat)
  case atStart => exact ⟨0, Nat.zero_le _, by simp, h0, SdKpt.refl _ _ _ _⟩
  case round =>
    obtain ⟨k, hk, rfl, hJs, hnx⟩ := hrel
    have hB1 := (hnx.2 _ hBs).cell
    by_cases hlt : k < len
    · obtain ⟨b, o, rfl, hb, hcc⟩ := (hc.below hnx.1 (Nat.le_refl _)).at_ (by omega)
      have hxl := hc.length
      have hx : xs[len - 1 - k]? = some (xs.getD (len - 1 - k) (0, 0)) := by rw [List.getD_eq_getElem?_getD, List.getElem?_eq_getElem (by omega)]; rfl
      obtain ⟨hc1, hc2⟩ := hcc _ _ hx
      have hs := sbk_succ xs k
      rw [hxl] at hs
      generalize xs.getD (len - 1 - k) (0, 0) = x at hc1 hc2 hs
      have HS := Lib.hid hs
      obtain ⟨q, hq⟩ : ∃ q, q = len - 1 - k := ⟨_, rfl⟩
      rw [← hq] at hc1 hc2 HS
      have hqi : (len : Int) - 1 - (k : Int) = (q : Int) := by omega
      rw [hqi]
      have hq1 : (q : Int) < (len : Int) := by omega
      have Hq := Lib.hid hq
      obtain ⟨fn, tmps, assign, body, hy, hR⟩ := hY _ (q, x) wr hJs (by rw [sbk_length]; exact hlt)
      dsimp only at hy
      clear hcc hx hs hq hqi hc
      gi_wp2
      refine hR.mono ?_
      rintro e W3 (⟨rfl, hJ3, hk3⟩ | ⟨rfl, hJx3⟩)
      · gi_wp2
        go_roundw
        case rel => exact ⟨k + 1, by omega, by have := Hq.out; go_num, by rw [HS.out]; exact hJ3, hnx.trans hk3⟩
        case measure => simp [intOf]
      · gi_wp2
        refine bodyPost_ret (results_none rfl _ _ _) rfl ?_
        exact ⟨⟨_, rfl⟩, .inr ⟨_, ⟨k + 1, by omega, HS.out.symm⟩, hJx3⟩⟩
    · have hkl : k = len := by omega
      subst hkl
      rw [show (k : Int) - 1 - (k : Int) = -1 from by omega]
      gi_wp2
      go_end0
      exact ⟨⟨_, rfl⟩, .inl ⟨_, rfl, hJs⟩⟩
theorem sdback_in (F : Fence) (n : Nat) (hF : F.fn 58) (hro : F.round = none) (a : Option Addr) (len cap : Nat) (w : World) :
    CallsIn F n Try.prog 58 #[.slice a len cap] w fun e w' => e = .returned (.func (.func 67) #[] #[.pointer (some ⟨w.heap.size, 0, none⟩)]) ∧ w' = w.alloc (.cells #[.slice a len cap] 23) := by
  refine callsIn_of_wp Try.func58 rfl hF ?_ hro
  simp only [Try.ntmps58, List.size_toArray, List.length_cons, List.length_nil, Nat.reduceAdd, Nat.reduceSub, Array.replicate_succ, Array.replicate_zero, List.push_toArray, List.append_toArray, List.nil_append, List.cons_append]
  gi_wp2
  go_ret
  exact ⟨rfl, rfl⟩
theorem sdback_stops (F : Fence) (n : Nat) (hF : F.fn 67) (hro : F.round = none) (hn : 1 ≤ n) (Bs n₀ : Nat) (a : Option Addr) (len cap : Nat) (xs : List (Int × Int)) (hl : len ≤ 100000) (w : World) (hn₀ : n₀ ≤ w.heap.size)
    (hBs : Boxed w Bs 23 (.slice a len cap)) (hc : Slts w n₀ a len cap xs) :
    SeqStopsK F n Try.prog 67 #[.pointer (some ⟨Bs, 0, none⟩)] (fun x : Nat × (Int × Int) => #[Value.int .i64 (x.1 : Int), .agg #[.int .i64 x.2.1, .int .i64 x.2.2]]) (SdKpt n₀ Bs 23)
      (fun ys => ys = sbk xs len) (fun pre => ∃ k, k ≤ len ∧ pre = sbk xs k) len w := fun l J Jx W hW _ _ hY h0 => by
  have h1 : Boxed W Bs 23 (.slice a len cap) := (hW.block Bs hBs.lt).trans hBs
  exact sdback1_in F n hF hro hn l Bs n₀ a len cap xs hl J Jx hY W h1 (hc.below (hW.mono hn₀) (Nat.le_refl _)) h0

/-- A block of cells is as it was behind the book-keeping of a loop. -/
theorem sdcells_kept {X Y : World} {row : Option Nat} {B : Nat} {cs : Array Value} {t : TypeId} {fr : Nat × Nat} (h : X.heap[B]? = some (.cells cs t fr)) (hg : X.grownBy Y row) (hr : ∀ r, row = some r → ∃ o : Obj, X.heap[r]? = some o ∧ o.isCells = false) : Y.heap[B]? = some (.cells cs t fr) :=
  (hg.block B (Array.getElem?_eq_some_iff.1 h).1 (fun e => by
    obtain ⟨o, ho, hc⟩ := hr B e.symm
    rw [h] at ho
    injection ho with ho
    subst ho
    cases hc)).trans h

/-- What Want tells: the N of the last slot that is not above, or 0. -/
theorem sdmem_bk {l : List (Int × Int)} {k j : Nat} {y : Int × Int} (hk : k ≤ l.length) (h : l[j]? = some y) (hj : l.length < j + 1 + k) : (j, y) ∈ sbk l k := by
  have hlt := (List.getElem?_eq_some_iff.1 h).1
  refine List.mem_map.2 ⟨l.length - 1 - j, List.mem_range.2 (by omega), ?_⟩
  have e : l.length - 1 - (l.length - 1 - j) = j := by omega
  rw [e, List.getD_eq_getElem?_getD, h]
  rfl
theorem at_ab {l : List (Int × Int)} {j : Nat} (hj : j < l.length) : l[j]? = some (ab l j, de l j) := by
  unfold ab de
  rw [List.getD_eq_getElem?_getD, List.getElem?_eq_getElem hj]
  rfl
theorem swn_none {l : List (Int × Int)} {u : Int} (h : ∀ x ∈ sbk l l.length, u < x.2.1) : swn l u = 0 :=
  swn_no fun j hj => h (j, (ab l j, de l j)) (sdmem_bk (Nat.le_refl _) (at_ab hj) (by omega))
theorem swn_stop {l : List (Int × Int)} {u : Int} {k : Nat} (hk : k ≤ l.length) {p : List (Nat × (Int × Int))} {x : Nat × (Int × Int)} (e : sbk l k = p ++ [x]) (h : ∀ y ∈ p, u < y.2.1) (hx : x.2.1 ≤ u) : swn l u = x.2.2 := by
  have hl : k = p.length + 1 := by have := congrArg List.length e; rw [sbk_length] at this; simpa using this
  subst hl
  rw [sbk_succ] at e
  obtain ⟨e1, e2⟩ := List.append_inj' e rfl
  injection e2 with e2
  subst e2
  refine swn_last (k := l.length - 1 - p.length) (by omega) hx (fun j hj hy => ?_)
  refine h (j, (ab l j, de l j)) ?_
  rw [← e1]
  exact sdmem_bk (by omega) (at_ab hy) (by omega)

theorem PRow.slts {w : World} {a : Option Addr} {n c : Nat} {l : List (Int × Int)} (h : PRow w a n c l) : Slts w w.heap.size a n c l :=
  ⟨h.2, h.1.le, h.1.max, fun hn => by
    obtain ⟨b, o, e, hb, hc⟩ := h.cell hn
    refine ⟨b, o, e, hb, fun k x hx => ?_⟩
    have hk := (List.getElem?_eq_some_iff.1 hx).1
    have := hc k (by have := h.2; omega)
    rw [List.getD_eq_getElem?_getD, hx] at this
    exact this⟩
def WanI (u : Int) (w : World) (pre : List (Nat × (Int × Int))) (W : World) : Prop :=
  (((∀ x ∈ pre, u < x.2.1) ∧ Boxed W (w.heap.size + 1) 2 (.int .i64 u)) ∧ Boxed W w.heap.size 3 (.int .i64 0)) ∧ Below w.heap.size w W
def WanX (u : Int) (w : World) (c : Code) (pre : List (Nat × (Int × Int))) (W : World) : Prop :=
  (c = .ret ∧ ∃ p x, pre = p ++ [x] ∧ (∀ y ∈ p, u < y.2.1) ∧ x.2.1 ≤ u ∧ Boxed W w.heap.size 3 (.int .i64 x.2.2)) ∧ Below w.heap.size w W
theorem wanI_own (u : Int) (w : World) (B : Nat) (hB : w.heap.size ≤ B) : OwnFrom B (WanI u w) :=
  OwnFrom.and (OwnFrom.and (OwnFrom.and (ownFrom_pure _ _) (Own.from (boxed_own _ _ _) _)) (Own.from (boxed_own _ _ _) _)) (ownFrom_below (Nat.le_refl _) hB)
theorem wanX_own (u : Int) (w : World) (B : Nat) (hB : w.heap.size ≤ B) (c : Code) : OwnFrom B (WanX u w c) :=
  OwnFrom.and (fun s X Y row h hg hr => by
      obtain ⟨e0, p, x, e1, e2, e3, e4⟩ := h
      exact ⟨e0, p, x, e1, e2, e3, boxed_own _ _ (fun (_ : Unit) => Value.int .i64 x.2.2) () X Y row e4 hg (fun r e => (hr r e).2)⟩) (ownFrom_below (Nat.le_refl _) hB)
theorem wanI_step {u : Int} {pre : List (Nat × (Int × Int))} {x : Nat × (Int × Int)} (hp : ∀ y ∈ pre, u < y.2.1) (hx : u < x.2.1) : ∀ y ∈ pre ++ [x], u < y.2.1 := by
  intro y hy
  rcases List.mem_append.1 hy with h | h
  · exact hp y h
  · simp at h
    subst h
    exact hx
theorem sdat_in (F : Fence) (n : Nat) (hF : F = Fence.wide) {p : Int} (hp : 1 ≤ p) (hp2 : p ≤ 1099511627776) (t : Int) (w : World) :
    CallsIn F n Try.prog 57 #[.int .i64 p, .int .i64 t] w fun e w' => e = .returned (.int .i64 (tod p t)) ∧ w = w' := by
  subst hF
  exact callsIn_wide.2 ((sdat_any hp hp2 t w).mono fun e w' h => ⟨h.1, h.2.symm⟩)

set_option maxRecDepth 100000 in
set_option maxHeartbeats 4000000 in
theorem sdwant_in (F : Fence) (hF : F = Fence.wide) (n : Nat) (hf : F.fn 44) (hfa : F.fn 57) (hfb : F.fn 58) (hfc : F.fn 67) (hro : F.round = none) (hn : 6 ≤ n)
    (a : Option Addr) (len cap : Nat) (xs : List (Int × Int)) (hl : len ≤ 100000) {p : Int} (hp : 1 ≤ p) (hp2 : p ≤ 1099511627776) (t : Int) (w : World) (hs : Slts w w.heap.size a len cap xs) :
    CallsIn F n Try.prog 44 #[.int .i64 p, .slice a len cap, .int .i64 t] w fun e w' => e = .returned (.int .i64 (swn xs (tod p t))) ∧ Below w.heap.size w w' := by
  have h1 : 1 ≤ n := by omega
  have AT := Lib.hid (fun x => sdat_in F (n - 1) hF hp hp2 t x)
  clear hF hp hp2
  generalize tod p t = u at *
  refine callsIn_of_wp_marks Try.func44 rfl hf ?_ hro
  simp only [Try.ntmps44, List.size_toArray, List.length_cons, List.length_nil, Nat.reduceAdd, Nat.reduceSub, Array.replicate_succ, Array.replicate_zero, List.push_toArray, List.append_toArray, List.nil_append, List.cons_append]
  gi_wp2_with (first | (gi_at_call 58; refine (sdback_in F (n - 1) hfb hro _ _ _ _).mono ?_; rintro e w' ⟨rfl, rfl⟩) | (gi_at_call 57; refine (AT.out _).mono ?_; rintro e w9 ⟨rfl, rfl⟩))
  have bA := (((Boxed.new w 3 (.int .i64 0)).alloc (.cells #[.int .i64 u] 2)).alloc (.cells #[.slice a len cap] 23))
  have bS := ((Boxed.new (w.alloc (.cells #[.int .i64 0] 3)) 2 (.int .i64 u)).alloc (.cells #[.slice a len cap] 23))
  have bL := Boxed.new ((w.alloc (.cells #[.int .i64 0] 3)).alloc (.cells #[.int .i64 u] 2)) 23 (.slice a len cap)
  simp only [World.size_alloc] at bA bS bL
  have hB0 : Below w.heap.size w (((w.alloc (.cells #[.int .i64 0] 3)).alloc (.cells #[.int .i64 u] 2)).alloc (.cells #[.slice a len cap] 23)) :=
    (((Below.refl _ w).alloc (Nat.le_refl _) _).alloc (by simp) _).alloc (by simp; omega) _
  have hsz : (((w.alloc (.cells #[.int .i64 0] 3)).alloc (.cells #[.int .i64 u] 2)).alloc (.cells #[.slice a len cap] 23)).heap.size = w.heap.size + 3 := by simp
  obtain ⟨W0, hW0⟩ : ∃ W0, ((w.alloc (.cells #[.int .i64 0] 3)).alloc (.cells #[.int .i64 u] 2)).alloc (.cells #[.slice a len cap] 23) = W0 := ⟨_, rfl⟩
  rw [hW0] at bS bA bL hB0 hsz ⊢
  clear hW0
  refine wpIn_rangeFunc_ownH hro h1 (gf := 67) (lb := #[.pointer (some ⟨w.heap.size + 1 + 1, 0, none⟩)]) rfl hfc (enters_of Try.func67 (by kernel_rfl) rfl)
    (sdback_stops F (n - 1) hfc hro (by omega) (w.heap.size + 1 + 1) w.heap.size a len cap xs hl W0 (by omega) bL (hs.below hB0 (Nat.le_refl _))) SdKpt.trans (SdKpt.book (by omega)) (Below.refl _ _) (fun _ => rfl)
    (WanI u w)
    (WanX u w)
    (wanI_own u w _ (by omega)) (wanX_own u w _ (by omega))
    ⟨⟨⟨by simp, bS⟩, bA⟩, hB0⟩
    (fun x a' W => ∃ Bx, w.heap.size + 1 < Bx ∧ W.heap[Bx]? = some (.cells #[.int .i64 x.2.1, .int .i64 x.2.2] 43 (0, 0)) ∧ a' = { tmps := #[.int .i64 p, .slice a len cap, .int .i64 t, undef, undef, undef, .pointer (some ⟨w.heap.size, 0, none⟩), .pointer (some ⟨w.heap.size + 1, 0, none⟩), undef, .pointer (some ⟨Bx, 0, none⟩), .int .i64 p, .int .i64 t, .int .i64 u, .slice a len cap, .func (.func 67) #[] #[.pointer (some ⟨w.heap.size + 1 + 1, 0, none⟩)], .int .i64 (x.1 : Int), .agg #[.int .i64 x.2.1, .int .i64 x.2.2], undef, undef, undef, undef, undef, undef], defers := [] })
    (fun x a' _ X Y row h hg hr => by obtain ⟨Bx, e1, e2, e3⟩ := h; exact ⟨Bx, e1, sdcells_kept e2 hg (fun r e => (hr r e).2), e3⟩)
    ?assign ?body ?done ?stop
  case assign =>
    rintro l pre x W K ⟨⟨⟨hp, b1⟩, b2⟩, hB1⟩ hK
    gi_wp2
    refine hK _ _ ((KeepsOthers.alloc _ _).from _) ⟨(Below.refl _ W).alloc hB1.size _, fun v hv => hv.alloc _⟩ ⟨⟨⟨hp, b1.alloc _⟩, b2.alloc _⟩, hB1.alloc hB1.size _⟩ ⟨W.heap.size, b1.lt, heap_alloc_new W _, rfl⟩
  case body =>
    rintro l pre x a' W _ _ ⟨⟨⟨hp, b1⟩, b2⟩, hB1⟩ ⟨Bx, hBx, hX, rfl⟩ _
    have c0 := (cell_of_row W Bx 0 _ _ _ hX).trans rfl
    have c1 := (cell_of_row W Bx 1 _ _ _ hX).trans rfl
    have cs := b1.cell
    have ca := b2.cell
    have fa := b2.frozen
    by_cases hle : x.2.1 ≤ u
    · have hd : decide (x.2.1 ≤ u) = true := by simpa using hle
      have Hl := Lib.hid hle
      clear hle
      gi_wp2
      exact ⟨(KeepsOthers.setCell _ _ _).from _, ⟨rfl, pre, x, rfl, hp, Hl.out, b2.set _⟩, hB1.setCell (p := ⟨w.heap.size, 0, none⟩) (by simp) _⟩
    · have hd : decide (x.2.1 ≤ u) = false := by simpa using hle
      have Hl := Lib.hid (show u < x.2.1 by omega)
      clear hle
      gi_wp2
      exact ⟨KeepsFrom.refl _ _, SdKpt.refl _ _ _ _, ⟨⟨wanI_step hp Hl.out, b1⟩, b2⟩, hB1⟩
  case done =>
    rintro D ys W hD rfl ⟨⟨⟨hp, b1⟩, b2⟩, hB1⟩ hK
    have ca := b2.cell
    have fa := b2.frozen
    gi_wp2
    have hK' := (KeepsOthers.setCell W ⟨w.heap.size, 0, none⟩ (.int .i64 0)).same D _ hK rfl
    refine ⟨by simp, .inl ⟨_, _, rfl, run_takeDeferred hK', ?_⟩⟩
    have hca := cell_kept ((b2.set (.int .i64 0)).cell) (grownBy_putObj' _ D (.deferred none)) (fun r e => by cases e; exact ⟨_, hK', rfl⟩)
    refine ⟨.int .i64 0, ?_, ⟨ret_i64 (swn_none (by rw [hs.length]; exact hp)).symm, (hB1.setCell (p := ⟨w.heap.size, 0, none⟩) (by simp) _).trans (belowK_b (w := w) (Nat.le_refl _) _ D _ _ (by omega) hK' rfl rfl)⟩⟩
    simp [results, Try.results44, go_sem, hca]
  case stop =>
    rintro D c pre W hD ⟨k, hk, rfl⟩ ⟨⟨rfl, p, x, e1, e2, e3, b2⟩, hB1⟩ hK
    gi_wp2
    refine ⟨by simp, .inl ⟨_, _, rfl, run_takeDeferred hK, ?_⟩⟩
    have hca := cell_kept b2.cell (grownBy_putObj' _ D (.deferred none)) (fun r e => by cases e; exact ⟨_, hK, rfl⟩)
    refine ⟨.int .i64 x.2.2, ?_, ⟨ret_i64 (swn_stop (by have := hs.length; omega) e1 e2 e3).symm, hB1.trans (belowK_b (w := w) (Nat.le_refl _) W D _ _ (by omega) hK rfl rfl)⟩⟩
    simp [results, Try.results44, go_sem, hca]
theorem sdwant_any {w : World} {a : Option Addr} {n c : Nat} {l : List (Int × Int)} (h : PRow w a n c l) (hn : n ≤ 100000) {p : Int} (hp : 1 ≤ p) (hp2 : p ≤ 1099511627776) (t : Int) :
    Calls Try.prog 44 #[.int .i64 p, .slice a n c, .int .i64 t] w fun e w' => e = .returned (.int .i64 (swn l (tod p t))) ∧ Below w.heap.size w w' :=
  callsIn_wide.1 (sdwant_in Fence.wide rfl 6 trivial trivial trivial trivial rfl (Nat.le_refl _) a n c l hn hp hp2 t w h.slts)
end Go.Proofs.Ytpgjjdpblilljaa
