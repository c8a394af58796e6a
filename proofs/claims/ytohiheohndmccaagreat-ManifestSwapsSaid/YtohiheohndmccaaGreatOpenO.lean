/- Arguments that came in, opened: operations of a disk; ints. -/
import Derived.Test.YtohiheohndmccaaGreatOpenB
import Derived.Test.YtohiheohndmccaaGreatDkO
import Derived.SizedLaws
namespace Go.Proofs.YtohiheohndmccaaGreat
open Go.ChangeShapes Go.WideShapes Go.RowKit

/-- An operation, with where its rows lie. -/
structure OpV where
  what : Int
  nm : ByteArray
  to_ : ByteArray
  ba : Option Addr
  bc : Nat
  bs : List Nat
  n : Int
  ka : Option Addr
  kc : Nat
  ks : List Int
instance : Inhabited OpV := ⟨⟨0, ⟨#[]⟩, ⟨#[]⟩, none, 0, [], 0, none, 0, []⟩⟩
structure OpIn (w : World) (B : Nat) (op : OpV) : Prop where
  sl : Sl w B op.ba op.bs.length op.bc op.bs
  row : Row w B op.ka op.ks.length op.kc 1 (intsC op.ks)
  what_ : -9223372036854775808 ≤ op.what ∧ op.what ≤ 9223372036854775807
  n_ : -9223372036854775808 ≤ op.n ∧ op.n ≤ 9223372036854775807
  nm_ : op.nm.size ≤ 140737488351232
  to__ : op.to_.size ≤ 140737488351232
  bs_ : op.bs.length ≤ 140737488351232
/-- Operations, one behind the other. -/
structure OpsIn (w : World) (B : Nat) (a : Option Addr) (len cap : Nat) (l : List OpV) : Prop where
  length : l.length = len
  le : len ≤ cap
  max : cap ≤ maxLen
  at_ : 0 < len → ∃ b o, a = some ⟨b, o, none⟩ ∧ b < B ∧ ∀ (k : Nat) (op : OpV), l[k]? = some op →
    (w.cell? ⟨b, o + k * 6, none⟩ = some (.int .i64 op.what) ∧ w.cell? ⟨b, o + k * 6 + 1, none⟩ = some (.string op.nm) ∧ w.cell? ⟨b, o + k * 6 + 2, none⟩ = some (.string op.to_) ∧
      w.cell? ⟨b, o + k * 6 + 3, none⟩ = some (.slice op.ba op.bs.length op.bc) ∧ w.cell? ⟨b, o + k * 6 + 4, none⟩ = some (.int .i64 op.n) ∧ w.cell? ⟨b, o + k * 6 + 5, none⟩ = some (.slice op.ka op.ks.length op.kc)) ∧ OpIn w B op
theorem OpIn.below {w w' : World} {B B' : Nat} {op : OpV} (h : OpIn w B op) (hb : Below B' w w') (hB : B ≤ B') : OpIn w' B' op :=
  ⟨h.sl.below hb hB, h.row.below hb hB, h.what_, h.n_, h.nm_, h.to__, h.bs_⟩
theorem OpsIn.below {w w' : World} {B B' : Nat} {a : Option Addr} {len cap : Nat} {l : List OpV} (h : OpsIn w B a len cap l) (hb : Below B' w w') (hB : B ≤ B') : OpsIn w' B' a len cap l :=
  ⟨h.length, h.le, h.max, fun hp => by
    obtain ⟨b, o, e, hlt, hc⟩ := h.at_ hp
    have hk : ∀ j, w'.cell? ⟨b, j, none⟩ = w.cell? ⟨b, j, none⟩ := fun j => hb.cell (p := ⟨b, j, none⟩) (by show b < B'; omega)
    refine ⟨b, o, e, by omega, fun k op hop => ?_⟩
    obtain ⟨⟨h0, h1, h2, h3, h4, h5⟩, hi⟩ := hc k op hop
    exact ⟨⟨(hk _).trans h0, (hk _).trans h1, (hk _).trans h2, (hk _).trans h3, (hk _).trans h4, (hk _).trans h5⟩, hi.below hb hB⟩⟩

section
variable {H : Type} {enc : TypeId × Value → H}
set_option maxRecDepth 100000 in
/-- A slice of ints, cell by cell. -/
theorem open_ints0 {W : World} {fuel : Nat} {v : Value} {x : DataW H × List MemPlace} (h : DataW.trod enc Tryz.prog W 0 (fun _ => true) true fuel 33 [v] = some x) :
    ∃ a cap ks, v = .slice a (List.length ks) cap ∧ Row W W.heap.size a (List.length ks) cap 1 (intsC ks) ∧ ∀ k ∈ ks, -9223372036854775808 ≤ k ∧ k ≤ 9223372036854775807 := by
  rcases open_ints Tryz.underlying33 Tryz.underlying3 (by kernel_rfl) h with ⟨hcs, _⟩ | ⟨a, l, c, zs, hcs, _, hl, hm, hz, _, hcell, hwz⟩
  · simp at hcs
    subst hcs
    exact ⟨none, 0, [], rfl, ⟨Nat.le_refl _, by simp [maxLen], fun h => absurd h (by simp)⟩, by simp⟩
  · simp at hcs
    subst hcs
    simp at hz
    have hln : (zs.take l).length = l := by rw [List.length_take]; omega
    refine ⟨some a, c, zs.take l, by rw [hln], ⟨by omega, hm, fun hp => ?_⟩, fun k hk => by have := bounds_i64 (hwz k (List.mem_of_mem_take hk)); omega⟩
    rw [hln] at hp ⊢
    obtain ⟨b, off, spot⟩ := a
    have h0 := hcell 0 (by omega)
    have hs : spot = none := by simpa [Addr.add] using World.cell?_spot h0
    subst hs
    refine ⟨b, off, rfl, block_lt_of_cell h0, fun j hj => ?_⟩
    have := hcell j (by omega)
    rw [Addr.add_mid] at this
    rw [this]
    simp only [intsC]
    rw [List.getD_eq_getElem?_getD, List.getD_eq_getElem?_getD, List.getElem?_take_of_lt (by omega)]
set_option maxRecDepth 100000 in
theorem open_ints1 {W : World} {r : Reach} {b0 : Nat} {v : Value} {d : DataW H} {p : List MemPlace} (hv : Value.okWide Tryz.prog W r b0 33 v) (h : DataW.Trod enc Tryz.prog W 0 (fun _ => true) true 33 v d p) :
    ∃ a cap ks, v = .slice a (List.length ks) cap ∧ Row W W.heap.size a (List.length ks) cap 1 (intsC ks) ∧ ∀ k ∈ ks, -9223372036854775808 ≤ k ∧ k ≤ 9223372036854775807 := by
  obtain ⟨a, l, c, rfl⟩ := okWide_slice Tryz.underlying33 hv
  obtain ⟨fuel, hf⟩ := h
  exact open_ints0 (by simpa [Value.cells] using hf)

theorem reach_val : reachBytes = 140737488351232 := by decide
set_option maxRecDepth 100000 in
/-- An operation's six cells. -/
theorem open_op {W : World} {n : Nat} {cs : List Value} {x : DataW H × List MemPlace} (h : DataW.trod enc Tryz.prog W 0 (fun _ => true) true n 35 cs = some x) (hz : ∀ m ∈ x.1.weights Tryz.prog 35, m ≤ reachBytes) :
    ∃ op : OpV, cs = [.int .i64 op.what, .string op.nm, .string op.to_, .slice op.ba op.bs.length op.bc, .int .i64 op.n, .slice op.ka op.ks.length op.kc] ∧ OpIn W W.heap.size op := by
  obtain ⟨xs, n', _, hx, hcl, hxl, hf⟩ := DataW.trod_struct Tryz.underlying35 h
  have hcl : cs.length = 6 := hcl.trans (by kernel_rfl)
  have hxl : xs.length = 6 := hxl
  match cs, hcl, xs, hxl with
  | [c0, c1, c2, c3, c4, c5], _, [y0, y1, y2, y3, y4, y5], _ =>
    have g0 : DataW.trod enc Tryz.prog W 0 (fun _ => true) true n' 3 [c0] = some y0 := hf 0 _ rfl
    have g1 : DataW.trod enc Tryz.prog W 0 (fun _ => true) true n' 9 [c1] = some y1 := hf 1 _ rfl
    have g2 : DataW.trod enc Tryz.prog W 0 (fun _ => true) true n' 9 [c2] = some y2 := hf 2 _ rfl
    have g3 : DataW.trod enc Tryz.prog W 0 (fun _ => true) true n' 32 [c3] = some y3 := hf 3 _ rfl
    have g4 : DataW.trod enc Tryz.prog W 0 (fun _ => true) true n' 3 [c4] = some y4 := hf 4 _ rfl
    have g5 : DataW.trod enc Tryz.prog W 0 (fun _ => true) true n' 33 [c5] = some y5 := hf 5 _ rfl
    obtain ⟨e0, q0, _, w0⟩ := DataW.trod_int Tryz.underlying3 g0
    obtain ⟨s1, q1, v1, w1⟩ := DataW.trod_string Tryz.underlying9 g1
    obtain ⟨s2, q2, v2, w2⟩ := DataW.trod_string Tryz.underlying9 g2
    obtain ⟨ba, bc, bs, q3, hs⟩ := open_bytes g3
    obtain ⟨e4, q4, _, w4⟩ := DataW.trod_int Tryz.underlying3 g4
    obtain ⟨ka, kc, ks, q5, hk, _⟩ := open_ints0 g5
    simp at q0 q1 q2 q4
    subst q0 q1 q2 q3 q4 q5
    have hw : ∀ (j : Nat) (t : TypeId) (d : DataW H), ([3, 9, 9, 32, 3, 33] : List TypeId)[j]? = some t → [y0.1, y1.1, y2.1, y3.1, y4.1, y5.1][j]? = some d → ∀ m ∈ d.weights Tryz.prog t, m ≤ reachBytes := fun j t d ht hd m hm => by
      refine hz m ?_
      rw [hx]
      show m ∈ DataW.weights Tryz.prog 35 (.agg [y0.1, y1.1, y2.1, y3.1, y4.1, y5.1])
      unfold DataW.weights
      rw [Tryz.underlying35]
      exact DataW.weights_mem_each ht hd m hm
    have z1 := hw 1 _ _ rfl rfl s1.data.toList.length (by rw [v1]; simp [DataW.weights])
    have z2 := hw 2 _ _ rfl rfl s2.data.toList.length (by rw [v2]; simp [DataW.weights])
    have z3 : bs.length ≤ reachBytes := by
      rcases open_ints Tryz.underlying32 Tryz.underlying5 (by kernel_rfl) g3 with ⟨hcs, _⟩ | ⟨a, l, c, zs, hcs, _, hl, hm, hzl, hx3, _⟩
      · simp at hcs
        rw [hcs.2.1]; simp
      · simp at hcs hzl
        have := hw 3 _ _ rfl rfl (((lits .u8 (zs.take l)).length + (lits .u8 (zs.drop l)).length) * Tryz.prog.bytesOf 5) (by
          rw [hx3]
          unfold DataW.weights
          rw [Tryz.underlying32]
          exact List.mem_cons_self)
        rw [show Tryz.prog.bytesOf 5 = 1 from by kernel_rfl] at this
        simp [lits] at this
        omega
    have b0 := bounds_i64 w0
    have b4 := bounds_i64 w4
    rw [reach_val] at z1 z2 z3
    exact ⟨⟨e0, s1, s2, ba, bc, bs, e4, ka, kc, ks⟩, rfl, ⟨hs, hk, by simpa using b0, by simpa using b4, by simpa using z1, by simpa using z2, z3⟩⟩
set_option maxRecDepth 100000 in
theorem open_ops {W : World} {r : Reach} {b0 : Nat} {v : Value} {d : DataW H} {p : List MemPlace} (hv : Value.okWide Tryz.prog W r b0 22 v) (h : DataW.Trod enc Tryz.prog W 0 (fun _ => true) true 22 v d p)
    (hz : ∀ m ∈ d.weights Tryz.prog 22, m ≤ reachBytes) :
    ∃ a cap l, v = .slice a (List.length l) cap ∧ OpsIn W W.heap.size a (List.length l) cap l ∧ List.length l ≤ 140737488351232 := by
  obtain ⟨a, l, c, rfl⟩ := okWide_slice Tryz.underlying22 hv
  obtain ⟨fuel, hf⟩ := h
  have hf' : DataW.trod enc Tryz.prog W 0 (fun _ => true) true fuel 22 [.slice a l c] = some (d, p) := by simpa [Value.cells] using hf
  rcases Deep.open_slice Tryz.underlying22 hf' with ⟨hcs, _⟩ | ⟨x, len, cap, m, n, D, Pl, hcs, _, hl, hm, hmm, hx, hV⟩
  · simp at hcs
    obtain ⟨rfl, rfl, rfl⟩ := hcs
    exact ⟨none, 0, [], rfl, ⟨rfl, by simp, by simp [maxLen], fun h => absurd h (by simp)⟩, by simp⟩
  · simp at hcs
    obtain ⟨rfl, rfl, rfl⟩ := hcs
    simp at hmm
    have hc6 : Tryz.prog.cellsOf 35 = 6 := by kernel_rfl
    simp only [Prod.mk.injEq] at hx
    have hlz : l ≤ 140737488351232 := by
      have := hz ((((List.range l).map D).length + ((List.range (m - l)).map fun j => D (l + j)).length) * Tryz.prog.bytesOf 35) (by
        rw [hx.1]
        unfold DataW.weights
        rw [Tryz.underlying22]
        exact List.mem_cons_self)
      rw [show Tryz.prog.bytesOf 35 = 96 from by kernel_rfl, reach_val] at this
      simp at this
      omega
    have hD : ∀ i, i < l → ∀ q ∈ (D i).weights Tryz.prog 35, q ≤ reachBytes := fun i hi q hq => by
      refine hz q ?_
      rw [hx.1]
      unfold DataW.weights
      rw [Tryz.underlying22]
      refine List.mem_cons_of_mem _ (List.mem_append_left _ ?_)
      have : ∀ (L : List Nat), i ∈ L → q ∈ DataW.weightsAll Tryz.prog 35 (L.map D) := by
        intro L
        induction L with
        | nil => intro h; cases h
        | cons y L ih =>
          intro h
          rcases List.mem_cons.1 h with rfl | h
          · exact List.mem_append_left _ hq
          · exact List.mem_append_right _ (ih h)
      exact this _ (List.mem_range.2 hi)
    obtain ⟨F, hF⟩ := Deep.choose_lt (α := OpV) (n := l) (p := fun i op => (∀ j, j < 6 → W.cell? ((x.add (i * 6)).add j) = [Value.int .i64 op.what, .string op.nm, .string op.to_, .slice op.ba op.bs.length op.bc, .int .i64 op.n, .slice op.ka op.ks.length op.kc][j]?) ∧ OpIn W W.heap.size op) (fun i hi => by
      obtain ⟨cs', hc, ht⟩ := hV i (by omega)
      rw [hc6] at hc
      obtain ⟨_, _, hat⟩ := World.cells?_some hc
      obtain ⟨op, e, ho⟩ := open_op ht (hD i hi)
      subst e
      exact ⟨op, hat, ho⟩)
    refine ⟨some x, c, (List.range l).map F, by simp, ⟨by simp, by simpa using hl, hm, fun hp => ?_⟩, by simpa using hlz⟩
    simp at hp
    obtain ⟨b, off, spot⟩ := x
    have h0 := (hF 0 hp).1 0 (by omega)
    have hs : spot = none := by
      have h0' : W.cell? (Addr.add (Addr.add ⟨b, off, spot⟩ (0 * 6)) 0) = some (.int .i64 (F 0).what) := h0
      simpa [Addr.add] using World.cell?_spot h0'
    subst hs
    have hlt : b < W.heap.size := by
      have h0' : W.cell? (Addr.add (Addr.add ⟨b, off, none⟩ (0 * 6)) 0) = some (.int .i64 (F 0).what) := h0
      simpa [Addr.add] using block_lt_of_cell h0'
    refine ⟨b, off, rfl, hlt, fun k op hop => ?_⟩
    rw [List.getElem?_map] at hop
    obtain ⟨i, hi, rfl⟩ := Option.map_eq_some_iff.1 hop
    have hkl : k < l := by have := (List.getElem?_eq_some_iff.1 hi).1; simpa using this
    rw [List.getElem?_range hkl] at hi
    injection hi with hi
    subst hi
    obtain ⟨hcell, ho⟩ := hF k hkl
    have hc : ∀ j, j < 6 → W.cell? ⟨b, off + k * 6 + j, none⟩ = [Value.int .i64 (F k).what, .string (F k).nm, .string (F k).to_, .slice (F k).ba (F k).bs.length (F k).bc, .int .i64 (F k).n, .slice (F k).ka (F k).ks.length (F k).kc][j]? := fun j hj => by
      have := hcell j hj
      rw [Addr.add_mid, Addr.add_mid] at this
      exact this
    exact ⟨⟨hc 0 (by omega), hc 1 (by omega), hc 2 (by omega), hc 3 (by omega), hc 4 (by omega), hc 5 (by omega)⟩, ho⟩
end
end Go.Proofs.YtohiheohndmccaaGreat
