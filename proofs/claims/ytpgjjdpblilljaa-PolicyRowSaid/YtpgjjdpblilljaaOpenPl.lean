/- Arguments that came in, opened: policies, states. -/
import Derived.Test.YtpgjjdpblilljaaOpenP
import Derived.ChangeArms
namespace Go.Proofs.Ytpgjjdpblilljaa
set_option linter.unusedSimpArgs false
set_option linter.unusedVariables false
open Go.ChangeShapes Go.WideShapes Go.RowKit
open Wir Evn

section
variable {H : Type} {enc : TypeId × Value → H}
set_option maxRecDepth 100000 in
/-- A slice of pairs, cell by cell. -/
theorem open_slots {W : World} {fuel : Nat} {v : Value} {x : DataW H × List MemPlace} (h : DataW.trod enc Try.prog W 0 (fun _ => true) true fuel 23 [v] = some x) :
    ∃ a cap l, v = .slice a (List.length l) cap ∧ PRow W a (List.length l) cap l ∧ All64 (pairs l) := by
  rcases Deep.open_slice Try.underlying23 h with ⟨hcs, _⟩ | ⟨x, len, cap, m, n, D, Pl, hcs, _, hl, hm, hmm, hx, hV⟩
  · simp at hcs
    subst hcs
    exact ⟨none, 0, [], rfl, PRow.nil_, all64_nil⟩
  · simp at hcs
    subst hcs
    simp at hmm
    have hc2 : Try.prog.cellsOf 43 = 2 := by kernel_rfl
    obtain ⟨F, hF⟩ := Deep.choose_lt (α := Int × Int) (n := len) (p := fun i q => (∀ j, j < 2 → W.cell? ((x.add (i * 2)).add j) = [Value.int .i64 q.1, .int .i64 q.2][j]?) ∧ I64 q.1 ∧ I64 q.2) (fun i hi => by
      obtain ⟨cs', hc, ht⟩ := hV i (by omega)
      rw [hc2] at hc
      obtain ⟨_, _, hat⟩ := World.cells?_some hc
      obtain ⟨xs, n', _, hx', hcl, hxl, hf⟩ := DataW.trod_struct Try.underlying43 ht
      have hcl : cs'.length = 2 := hcl.trans (by kernel_rfl)
      have hxl : xs.length = 2 := hxl
      match cs', hcl, xs, hxl with
      | [c0, c1], _, [y0, y1], _ =>
        have g0 : DataW.trod enc Try.prog W 0 (fun _ => true) true n' 2 [c0] = some y0 := hf 0 _ rfl
        have g1 : DataW.trod enc Try.prog W 0 (fun _ => true) true n' 3 [c1] = some y1 := hf 1 _ rfl
        obtain ⟨e0, q0, _, w0⟩ := DataW.trod_int Try.underlying2 g0
        obtain ⟨e1, q1, _, w1⟩ := DataW.trod_int Try.underlying3 g1
        simp at q0 q1
        subst q0 q1
        exact ⟨(e0, e1), fun j hj => hat j hj, i64_of w0, i64_of w1⟩)
    have hlen : ((List.range len).map F).length = len := by simp
    have hg : ∀ k, k < len → ((List.range len).map F).getD k (0, 0) = F k := fun k hk => by
      rw [List.getD_eq_getElem?_getD, List.getElem?_map, List.getElem?_range hk]; rfl
    refine ⟨some x, cap, (List.range len).map F, by rw [hlen], ⟨⟨by rw [hlen]; exact hl, hm, fun hp => ?_⟩, rfl⟩, fun z hz => ?_⟩
    · rw [hlen] at hp ⊢
      obtain ⟨b, off, spot⟩ := x
      have h0 := (hF 0 hp).1 0 (by decide)
      have hs : spot = none := by simpa [Addr.add] using World.cell?_spot h0
      subst hs
      refine ⟨b, off, rfl, by have := block_lt_of_cell h0; simpa [Addr.add] using this, fun j hj => ?_⟩
      have hk := (hF (j / 2) (by omega)).1 (j % 2) (Nat.mod_lt _ (by decide))
      rw [Addr.add_mid, Addr.add_mid, Nat.add_assoc, show j / 2 * 2 + j % 2 = j from by omega] at hk
      rw [hk]
      have h3 : j % 2 = 0 ∨ j % 2 = 1 := by omega
      have hp := pairs_get ((List.range len).map F) (j / 2)
      rw [hg _ (by omega)] at hp
      simp only [intsC]
      rcases h3 with h | h
      · rw [h]
        have : j = j / 2 * 2 := by omega
        conv => rhs; rw [this]
        rw [hp.1]; rfl
      · rw [h]
        have : j = j / 2 * 2 + 1 := by omega
        conv => rhs; rw [this]
        rw [hp.2]; rfl
    · unfold pairs at hz
      obtain ⟨q, hq, hz⟩ := List.mem_flatMap.1 hz
      obtain ⟨i, hi, rfl⟩ := List.mem_map.1 hq
      have := (hF i (List.mem_range.1 hi)).2
      simp only [List.mem_cons, List.not_mem_nil, or_false] at hz
      rcases hz with rfl | rfl
      · exact this.1
      · exact this.2
theorem all64_6 {a b c d e f : Int} (h1 : I64 a) (h2 : I64 b) (h3 : I64 c) (h4 : I64 d) (h5 : I64 e) (h6 : I64 f) : All64 [a, b, c, d, e, f] :=
  all64_cons h1 (all64_cons h2 (all64_cons h3 (all64_cons h4 (all64_cons h5 (all64_cons h6 all64_nil)))))
def plL (p : Pl) (a1 a2 : Option Addr) (c1 c2 : Nat) : List Value := [.int .i64 p.kind, .int .i64 p.target, .slice a1 p.bands.length c1, .int .i64 p.kp, .int .i64 p.ki, .int .i64 p.kd, .int .i64 p.period, .slice a2 p.slots.length c2]
structure PlM (w : World) (a1 a2 : Option Addr) (c1 c2 : Nat) (p : Pl) : Prop where
  bands : PRow w a1 p.bands.length c1 p.bands
  slots : PRow w a2 p.slots.length c2 p.slots
  nums : All64 [p.kind, p.target, p.kp, p.ki, p.kd, p.period]
  b64 : All64 (pairs p.bands)
  s64 : All64 (pairs p.slots)
set_option maxRecDepth 100000 in
set_option maxHeartbeats 1600000 in
theorem open_pol0 {W : World} {n : Nat} {cs : List Value} {x : DataW H × List MemPlace} (h : DataW.trod enc Try.prog W 0 (fun _ => true) true n 25 cs = some x) :
    ∃ (p : Pl) (a1 a2 : Option Addr) (c1 c2 : Nat), cs = plL p a1 a2 c1 c2 ∧ PlM W a1 a2 c1 c2 p := by
  obtain ⟨xs, n', _, hx, hcl, hxl, hf⟩ := DataW.trod_struct Try.underlying25 h
  have hcl : cs.length = 8 := hcl.trans (by kernel_rfl)
  have hxl : xs.length = 8 := hxl
  match cs, hcl, xs, hxl with
  | [c0, c1, c2, c3, c4, c5, c6, c7], _, [y0, y1, y2, y3, y4, y5, y6, y7], _ =>
    have g0 : DataW.trod enc Try.prog W 0 (fun _ => true) true n' 3 [c0] = some y0 := hf 0 _ rfl
    obtain ⟨e0, q0, _, w0⟩ := DataW.trod_int Try.underlying3 g0
    have g1 : DataW.trod enc Try.prog W 0 (fun _ => true) true n' 2 [c1] = some y1 := hf 1 _ rfl
    obtain ⟨e1, q1, _, w1⟩ := DataW.trod_int Try.underlying2 g1
    have g2 : DataW.trod enc Try.prog W 0 (fun _ => true) true n' 22 [c2] = some y2 := hf 2 _ rfl
    obtain ⟨a1, k1, l1, q2, hb1, hw1⟩ := open_bands g2
    have g3 : DataW.trod enc Try.prog W 0 (fun _ => true) true n' 2 [c3] = some y3 := hf 3 _ rfl
    obtain ⟨e3, q3, _, w3⟩ := DataW.trod_int Try.underlying2 g3
    have g4 : DataW.trod enc Try.prog W 0 (fun _ => true) true n' 2 [c4] = some y4 := hf 4 _ rfl
    obtain ⟨e4, q4, _, w4⟩ := DataW.trod_int Try.underlying2 g4
    have g5 : DataW.trod enc Try.prog W 0 (fun _ => true) true n' 2 [c5] = some y5 := hf 5 _ rfl
    obtain ⟨e5, q5, _, w5⟩ := DataW.trod_int Try.underlying2 g5
    have g6 : DataW.trod enc Try.prog W 0 (fun _ => true) true n' 2 [c6] = some y6 := hf 6 _ rfl
    obtain ⟨e6, q6, _, w6⟩ := DataW.trod_int Try.underlying2 g6
    have g7 : DataW.trod enc Try.prog W 0 (fun _ => true) true n' 23 [c7] = some y7 := hf 7 _ rfl
    obtain ⟨a2, k2, l2, q7, hb2, hw2⟩ := open_slots g7
    simp at q0 q1 q3 q4 q5 q6
    subst q0 q1 q3 q4 q5 q6
    subst q2 q7
    exact ⟨⟨e0, e1, l1, e3, e4, e5, e6, l2⟩, a1, a2, k1, k2, rfl, hb1, hb2, all64_6 (i64_of w0) (i64_of w1) (i64_of w3) (i64_of w4) (i64_of w5) (i64_of w6), hw1, hw2⟩
set_option maxRecDepth 100000 in
theorem open_pol {W : World} {r : Reach} {b0 : Nat} {v : Value} {d : DataW H} {p : List MemPlace} (hv : Value.okWide Try.prog W r b0 25 v) (h : DataW.Trod enc Try.prog W 0 (fun _ => true) true 25 v d p) :
    ∃ (q : Pl) (a1 a2 : Option Addr) (c1 c2 : Nat), v = plV q a1 a2 c1 c2 ∧ PlM W a1 a2 c1 c2 q := by
  obtain ⟨cs, rfl, hsz⟩ := okWide_struct Try.underlying25 hv
  obtain ⟨fuel, hf⟩ := h
  obtain ⟨q, a1, a2, c1, c2, hc, hm⟩ := open_pol0 (by simpa [Value.cells] using hf)
  have : cs = (plL q a1 a2 c1 c2).toArray := Array.toList_inj.1 hc
  subst this
  exact ⟨q, a1, a2, c1, c2, rfl, hm⟩
set_option maxRecDepth 100000 in
theorem open_state {W : World} {r : Reach} {b0 : Nat} {v : Value} {d : DataW H} {p : List MemPlace} (hv : Value.okWide Try.prog W r b0 27 v) (h : DataW.Trod enc Try.prog W 0 (fun _ => true) true 27 v d p) :
    ∃ (s e : Int) (b : Bool), v = .agg #[.int .i64 s, .int .i64 e, .bool b] := by
  obtain ⟨v0, v1, v2, y0, y1, y2, n, rfl, _, _, h0, h1, h2⟩ := Joins.open_agg3 Try.underlying27 (by kernel_rfl) (by kernel_rfl) hv h
  obtain ⟨s, e0, _, _⟩ := DataW.trod_int Try.underlying2 h0
  obtain ⟨e, e1, _, _⟩ := DataW.trod_int Try.underlying2 h1
  obtain ⟨b, e2, _⟩ := DataW.trod_bool Try.underlying4 h2
  simp at e0 e1 e2
  subst e0 e1 e2
  exact ⟨s, e, b, rfl⟩
end
end Go.Proofs.Ytpgjjdpblilljaa
