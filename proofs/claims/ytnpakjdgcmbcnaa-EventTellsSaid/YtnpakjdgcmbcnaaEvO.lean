/- Get. -/
import Derived.Test.YtnpakjdgcmbcnaaEvK
import Derived.Test.YtnpakjdgcmbcnaaEvV
namespace Go.Proofs.Ytnpakjdgcmbcnaa
open Go.RowKit
open Wir Evn
attribute [local go_sem] Oper.semAt_some

theorem num64 {s : RS} (h : s.Ok) : I64 s.num.1 := by
  unfold RS.num RS.told
  split
  · exact ⟨by simp, by simp⟩
  split
  · exact ⟨by simp, by simp⟩
  · exact (num_le h.drop).2.2
theorem rows64 : ∀ (n : Nat) (s : RS), s.Ok → All64 (pairs (rowsR n s).1) ∧ (rowsR n s).2.Ok
  | 0, s, h => ⟨fun x hx => by simp [rowsR, pairs] at hx, h⟩
  | n + 1, s, h => by
    have h1 := h.num.1
    have h2 := h1.num.1
    obtain ⟨h3, h4⟩ := rows64 n _ h2
    refine ⟨fun x hx => ?_, h4⟩
    have e : pairs (rowsR (n + 1) s).1 = s.num.1 :: s.num.2.num.1 :: pairs (rowsR n s.num.2.num.2).1 := rfl
    rw [e] at hx
    rcases List.mem_cons.1 hx with rfl | hx
    · exact num64 h
    rcases List.mem_cons.1 hx with rfl | hx
    · exact num64 h1
    · exact h3 x hx
theorem getRows64 {s : RS} (h : s.Ok) : All64 (pairs (getRows s).1) ∧ (getRows s).2.Ok ∧ (getRows s).1.length ≤ 8 := by
  have h1 := rows64 (s.int 0 8).1.toNat _ (h.int 0 8).1
  have h2 := int_in s 8 (by decide)
  refine ⟨h1.1, h1.2, ?_⟩
  have : (getRows s).1.length = (s.int 0 8).1.toNat := rowsR_len _ _
  omega
theorem all64_cons {x : Int} {l : List Int} (h : I64 x) (k : All64 l) : All64 (x :: l) := fun y hy => by
  rcases List.mem_cons.1 hy with rfl | hy
  · exact h
  · exact k y hy
theorem all64_nil : All64 [] := fun y hy => by cases hy
theorem i64_0 : I64 0 := ⟨by decide, by decide⟩
theorem text_bytes {s : RS} (h : s.Ok) (m : Int) : (∀ c ∈ (s.text m).1, c < 256) ∧ (s.text m).1.length ≤ s.bs.length := by
  unfold RS.text RS.told
  split
  · exact ⟨by simp, by simp⟩
  split
  · exact ⟨by simp, by simp⟩
  · unfold tx
    split
    · exact ⟨by simp, by simp⟩
    split
    · exact ⟨by simp, by simp⟩
    · refine ⟨fun c hc => h.drop c (List.mem_of_mem_drop (List.mem_of_mem_take hc)), ?_⟩
      simp only [List.length_take, List.length_drop]
      omega
theorem ofKind64 {k : Int} (h : I64 k) : Ev64 (ofKind k) :=
  ⟨all64_cons h (all64_cons i64_0 (all64_cons i64_0 (all64_cons i64_0 (all64_cons i64_0 (all64_cons i64_0 all64_nil))))),
   all64_cons i64_0 (all64_cons i64_0 (all64_cons i64_0 (all64_cons i64_0 (all64_cons i64_0 (all64_cons i64_0 all64_nil))))), all64_nil, all64_nil,
   all64_cons i64_0 (all64_cons i64_0 (all64_cons i64_0 (all64_cons i64_0 (all64_cons i64_0 (all64_cons i64_0 (all64_cons i64_0 (all64_cons i64_0 (all64_cons i64_0 (all64_cons i64_0 (all64_cons i64_0 (all64_cons i64_0 all64_nil))))))))))), fun c hc => by cases hc⟩
theorem rows_bs : ∀ (n : Nat) (s : RS), s.Ok → (rowsR n s).2.bs = s.bs
  | 0, _, _ => rfl
  | n + 1, s, h => ((rows_bs n _ h.num.1.num.1).trans h.num.1.num.2).trans h.num.2
theorem getRows_bs {s : RS} (h : s.Ok) : (getRows s).2.bs = s.bs := (rows_bs _ _ (h.int 0 8).1).trans (h.int 0 8).2
theorem getPl64 {s : RS} (h : s.Ok) : All64 [(getPl s).1.kind, (getPl s).1.target, (getPl s).1.kp, (getPl s).1.ki, (getPl s).1.kd, (getPl s).1.period] ∧ All64 (pairs (getPl s).1.bands) ∧ All64 (pairs (getPl s).1.slots) ∧ (getPl s).1.bands.length ≤ 8 ∧ (getPl s).1.slots.length ≤ 8 ∧ (getPl s).2.Ok ∧ (getPl s).2.bs = s.bs := by
  have h1 := h.num
  have h2 := h1.1.num
  have h3 := getRows64 h2.1
  have b3 := getRows_bs h2.1
  have h4 := h3.2.1.num
  have h5 := h4.1.num
  have h6 := h5.1.num
  have h7 := h6.1.num
  have h8 := getRows64 h7.1
  have b8 := getRows_bs h7.1
  unfold getPl
  dsimp only
  exact ⟨all64_cons (num64 h) (all64_cons (num64 h1.1) (all64_cons (num64 h3.2.1) (all64_cons (num64 h4.1) (all64_cons (num64 h5.1) (all64_cons (num64 h6.1) all64_nil))))), h3.1, h8.1, h3.2.2, h8.2.2, h8.2.1,
    b8.trans (h7.2.trans (h6.2.trans (h5.2.trans (h4.2.trans (b3.trans (h2.2.trans h1.2))))))⟩
theorem getCf64 {s : RS} (h : s.Ok) : All64 (confN (getCf s).1) ∧ (getCf s).2.Ok ∧ (getCf s).2.bs = s.bs := by
  have h1 := h.num
  have h2 := h1.1.num
  have h3 := h2.1.num
  have h4 := h3.1.num
  have h5 := h4.1.num
  have h6 := h5.1.num
  have h7 := h6.1.num
  have h8 := h7.1.num
  have h9 := h8.1.num
  have h10 := h9.1.num
  have h11 := h10.1.num
  have h12 := h11.1.num
  unfold getCf confN
  dsimp only
  exact ⟨all64_cons (num64 h) (all64_cons (num64 h1.1) (all64_cons (num64 h2.1) (all64_cons (num64 h3.1) (all64_cons (num64 h4.1) (all64_cons (num64 h5.1) (all64_cons (num64 h6.1) (all64_cons (num64 h7.1) (all64_cons (num64 h8.1) (all64_cons (num64 h9.1) (all64_cons (num64 h10.1) (all64_cons (num64 h11.1) (all64_nil)))))))))))), h12.1, h12.2.trans (h11.2.trans (h10.2.trans (h9.2.trans (h8.2.trans (h7.2.trans (h6.2.trans (h5.2.trans (h4.2.trans (h3.2.trans (h2.2.trans (h1.2)))))))))))⟩
/-- What is read is as 64 bits hold it, and not too long. -/
theorem get64 {s : RS} (h : s.Ok) {k : Int} (hk : I64 k) : Ev64 (getEv k s).1 ∧ (getEv k s).1.pol.bands.length ≤ 8 ∧ (getEv k s).1.pol.slots.length ≤ 8 ∧ (getEv k s).1.body.length ≤ s.bs.length ∧ (getEv k s).2.Ok ∧ (getEv k s).2.bs = s.bs := by
  have h0 := ofKind64 hk
  have n1 := num64 h
  have o1 := h.num
  have n2 := num64 o1.1
  have o2 := o1.1.num
  unfold getEv
  split
  · exact ⟨⟨all64_cons hk (all64_cons n1 (all64_cons n2 (all64_cons i64_0 (all64_cons i64_0 (all64_cons i64_0 all64_nil))))), h0.pol, h0.bands, h0.slots, h0.conf, h0.body⟩, by simp [ofKind, zeroPl], by simp [ofKind, zeroPl], by simp [ofKind], o2.1, o2.2.trans o1.2⟩
  split
  · exact ⟨⟨all64_cons hk (all64_cons i64_0 (all64_cons i64_0 (all64_cons n1 (all64_cons i64_0 (all64_cons i64_0 all64_nil))))), h0.pol, h0.bands, h0.slots, h0.conf, h0.body⟩, by simp [ofKind, zeroPl], by simp [ofKind, zeroPl], by simp [ofKind], o1.1, o1.2⟩
  split
  · have p := getPl64 o1.1
    generalize getPl s.num.2 = q at p ⊢
    dsimp only
    exact ⟨⟨all64_cons hk (all64_cons i64_0 (all64_cons i64_0 (all64_cons i64_0 (all64_cons n1 (all64_cons i64_0 all64_nil))))), p.1, p.2.1, p.2.2.1, h0.conf, h0.body⟩, p.2.2.2.1, p.2.2.2.2.1, by simp [ofKind], p.2.2.2.2.2.1, p.2.2.2.2.2.2.trans o1.2⟩
  split
  · have p := getCf64 h
    generalize getCf s = q at p ⊢
    dsimp only
    exact ⟨⟨h0.nums, h0.pol, h0.bands, h0.slots, p.1, h0.body⟩, by simp [ofKind, zeroPl], by simp [ofKind, zeroPl], by simp [ofKind], p.2.1, p.2.2⟩
  split
  · exact ⟨⟨all64_cons hk (all64_cons i64_0 (all64_cons i64_0 (all64_cons n1 (all64_cons i64_0 (all64_cons n2 all64_nil))))), h0.pol, h0.bands, h0.slots, h0.conf, h0.body⟩, by simp [ofKind, zeroPl], by simp [ofKind, zeroPl], by simp [ofKind], o2.1, o2.2.trans o1.2⟩
  split
  · exact ⟨⟨all64_cons hk (all64_cons i64_0 (all64_cons i64_0 (all64_cons i64_0 (all64_cons n1 (all64_cons i64_0 all64_nil))))), h0.pol, h0.bands, h0.slots, h0.conf, h0.body⟩, by simp [ofKind, zeroPl], by simp [ofKind, zeroPl], by simp [ofKind], o1.1, o1.2⟩
  split
  · have t := text_bytes h 1700
    exact ⟨⟨h0.nums, h0.pol, h0.bands, h0.slots, h0.conf, t.1⟩, by simp [ofKind, zeroPl], by simp [ofKind, zeroPl], t.2, (h.text 1700).1, (h.text 1700).2⟩
  · exact ⟨h0, by simp [ofKind, zeroPl], by simp [ofKind, zeroPl], by simp [ofKind], h, rfl⟩
theorem results_row_tmp1 {P : Program} {fn : Func} {p u : Tmp} {ty : TypeId} (h : fn.results = #[.cell p ty, .tmp u]) (tmps : Array Value) (w : World) (g : Nat) (t : TypeId) (cs : Array Value) (fr : Nat × Nat) (d : TypeDesc)
    (hp : tmps.getD p undef = .pointer (some ⟨g, 0, none⟩)) (hg : w.heap[g]? = some (.cells cs t fr))
    (hu : P.underlying ty = some d) (hd : (match d with | .struct _ | .array _ _ => true | _ => false) = true) (hi : (P.info? ty).map (·.size) = some cs.size) :
    (results fn tmps).run P w = .ok (.tuple #[.agg cs, tmps.getD u undef]) w := by
  have hp' : tmps[p]?.getD undef = .pointer (some ⟨g, 0, none⟩) := by simpa using hp
  simp [results, h, hp', asAddr, run_loadVar_row w g t ty cs fr d hg hu hd hi]
theorem but_setCells (b : Nat) : ∀ (vs : List Value) (o : Nat) (w : World), But (fun k => k = b) w (w.setCells b o vs)
  | [], _, w => But.refl _ w
  | v :: r, o, w => ((But.refl (fun k => k = b) w).setCell (p := ⟨b, o, none⟩) (.inl rfl) v).trans (but_setCells b r (o + 1) _) (fun _ h => .inl h)
theorem store27 {w : World} {g : Nat} {T : TypeId} {cs cs' : Array Value} (h : w.heap[g]? = some (.cells cs T (0, 0))) (hl : cs.size = cs'.size) : (w.setCells g 0 cs'.toList).heap[g]? = some (.cells cs' T (0, 0)) := by
  have := heap_setCells_whole (cs := cs.toList) cs'.toList (by simpa using hl) (by simpa using h)
  simpa using this
set_option linter.unusedSimpArgs false in
set_option maxRecDepth 100000 in
set_option maxHeartbeats 6400000 in
theorem get_any {w : World} {a : Option Addr} {len cap : Nat} {bs : List Nat} (kind : Int) (hk : I64 kind) (hs : Sl w w.heap.size a len cap bs) (hlen : len ≤ 1000000) :
    Calls Try.prog 7 #[.int .i64 kind, .slice a len cap] w fun r w' => ∃ d1 d2 d3 f1 f2 f3, r = .returned (.tuple #[evV (getR kind bs).1 d1 d2 d3 f1 f2 f3, .int .i64 (((getR kind bs).2 : Nat) : Int)]) ∧ EvM w' d1 d2 d3 f1 f2 f3 (getR kind bs).1 ∧ Below w.heap.size w w' := by
  obtain ⟨w0, hw0⟩ : ∃ w0, w0 = w.alloc (.cells (evC (ofKind 0) none none none 0 0 0) 30) := ⟨_, rfl⟩
  have hB0 : Below w.heap.size w w0 := by rw [hw0]; exact bel1 (Below.refl _ _) _
  have hr0 : w0.heap[w.heap.size]? = some (.cells (evC (ofKind 0) none none none 0 0 0) 30 (0, 0)) := by rw [hw0]; exact heap_alloc_new w _
  have NR := Lib.hid (newReader_any a len cap bs w0 ((hs.below hB0 (Nat.le_refl _)).more hB0.size) (by omega))
  have H0 := Lib.hid (And.intro hB0 (And.intro hr0 hk))
  have HW0 : Hid (w.alloc (.cells #[.int .i64 0, .int .i64 0, .int .i64 0, .int .i64 0, .int .i64 0, .int .i64 0, .int .i64 0, .int .i64 0, .slice none 0 0, .int .i64 0, .int .i64 0, .int .i64 0, .int .i64 0, .slice none 0 0, .int .i64 0, .int .i64 0, .int .i64 0, .int .i64 0, .int .i64 0, .int .i64 0, .int .i64 0, .int .i64 0, .int .i64 0, .int .i64 0, .int .i64 0, .int .i64 0, .slice none 0 0] 30) = w0) := hw0.symm
  clear hs hB0 hr0 hw0 hk
  go_enter Try.func7, Try.ntmps7
  go_wp2_with fail
  rw [HW0.out]
  refine NR.out.mono ?_
  rintro r w1 ⟨g, O, rfl, hR, hb1, hO⟩
  have hsz : w0.heap.size = w.heap.size + 1 := by rw [← HW0.out]; simp
  have hs01 := hb1.size
  obtain ⟨wA, hwA⟩ : ∃ wA, wA = w1.alloc (.cells #[.pointer (some ⟨g, 0, none⟩)] 50) := ⟨_, rfl⟩
  have hAs : wA.heap.size = w1.heap.size + 1 := by rw [hwA]; simp
  obtain ⟨wZ, hwZ⟩ : ∃ wZ, wZ = wA.alloc (.cells (evC (ofKind 0) none none none 0 0 0) 30) := ⟨_, rfl⟩
  have hbA : Below w1.heap.size w1 wA := by rw [hwA]; exact bel1 (Below.refl _ _) _
  have hbZ : Below w1.heap.size w1 wZ := by rw [hwZ]; exact bel1 hbA _
  have hzc : wZ.heap[w1.heap.size + 1]? = some (.cells (evC (ofKind 0) none none none 0 0 0) 30 (0, 0)) := by rw [hwZ, ← hAs]; exact heap_alloc_new wA _
  have hrc : wZ.heap[w1.heap.size]? = some (.cells #[.pointer (some ⟨g, 0, none⟩)] 50 (0, 0)) := by
    rw [hwZ]; exact (Below.heap_alloc _ _ _ (by omega)).trans (by rw [hwA]; exact heap_alloc_new w1 _)
  have hEQ : Hid ((w1.alloc (.cells #[.pointer (some ⟨g, 0, none⟩)] 50)).alloc (.cells #[.int .i64 0, .int .i64 0, .int .i64 0, .int .i64 0, .int .i64 0, .int .i64 0, .int .i64 0, .int .i64 0, .slice none 0 0, .int .i64 0, .int .i64 0, .int .i64 0, .int .i64 0, .slice none 0 0, .int .i64 0, .int .i64 0, .int .i64 0, .int .i64 0, .int .i64 0, .int .i64 0, .int .i64 0, .int .i64 0, .int .i64 0, .int .i64 0, .int .i64 0, .int .i64 0, .slice none 0 0] 30) = wZ) := by show _ = _; rw [hwZ, hwA]; rfl
  obtain ⟨w3, hw3⟩ : ∃ w3, w3 = wZ.setCells (w1.heap.size + 1) 0 (evC (ofKind kind) none none none 0 0 0).toList := ⟨_, rfl⟩
  have h3c : w3.heap[w1.heap.size + 1]? = some (.cells (evC (ofKind kind) none none none 0 0 0) 30 (0, 0)) := by rw [hw3]; exact store27 hzc rfl
  have hb3 : Below (w1.heap.size + 1) wA w3 := by rw [hw3]; exact below_setCells' _ (Nat.le_refl _) _ _ (by rw [hwZ, ← hAs]; exact bel1 (Below.refl _ _) _)
  have hb13 : Below w1.heap.size w1 w3 := hbA.trans (hb3.mono (by omega))
  have hr3 : w3.heap[w1.heap.size]? = some (.cells #[.pointer (some ⟨g, 0, none⟩)] 50 (0, 0)) := (hb3.block _ (by omega)).trans (by rw [hwA]; exact heap_alloc_new w1 _)
  have hS3 : Hid (wZ.setCells (w1.heap.size + 1) 0 (evC (ofKind kind) none none none 0 0 0).toList = w3) := hw3.symm
  have hOl := hR.lt
  have HRB := Lib.hid (RB.start (b := w1.heap.size + 1) (hR.below hb13) h3c (fun ho => by have := hOl _ ho; omega))
  have hres3 : w3.heap[w.heap.size]? = some (.cells (evC (ofKind 0) none none none 0 0 0) 30 (0, 0)) := (hb13.block _ (by omega)).trans ((hb1.block _ (by omega)).trans H0.out.2.1)
  have hB3 : Below w.heap.size w w3 := bel2 (bel2 H0.out.1 hb1) hb13
  have HF := Lib.hid (And.intro hres3 (And.intro hB3 (And.intro hr3 (And.intro hOl (And.intro hO (And.intro hsz (And.intro hs01 H0.out.2.2)))))))
  have HZC := Lib.hid hzc
  have k6 : w3.cell? ⟨w1.heap.size, 0, none⟩ = some (.pointer (some ⟨g, 0, none⟩)) := cell_of_one hr3
  clear hzc hrc hb3 hb13 hr3 hOl hres3 hB3 hO hR hb1 hbA hbZ h3c hw3 hwZ hwA hAs H0 NR hs01 hsz HW0
  go_wp2_with (first
    | ((try rw [hEQ.out]); refine wpList_store_mid (by rfl) 30 (.tmp 7) (.tmp 13) (by rfl) (w1.heap.size + 1) 0 (evC (ofKind kind) none none none 0 0 0) (by rfl) (by rfl) (there_of_block HZC.out (Nat.le_refl 27)) (by kernel_rfl) (by kernel_rfl) ?_; rw [hS3.out]))
  have CF := Lib.hid (rfields_any kind HRB.out)
  have HM := Lib.hid (get64 (s := ⟨bs, 0, 0⟩) HRB.out.rdr.ok HF.out.2.2.2.2.2.2.2)
  have HG : Hid (getR kind bs = if (getEv kind ⟨bs, 0, 0⟩).2.end_ ≠ 0 then (ofKind 0, (getEv kind ⟨bs, 0, 0⟩).2.end_) else if rightR (getEv kind ⟨bs, 0, 0⟩).1 = true then ((getEv kind ⟨bs, 0, 0⟩).1, 0) else (ofKind 0, 12)) := rfl
  generalize getEv kind ⟨bs, 0, 0⟩ = ge at *
  refine CF.out.mono ?_
  rintro r w4 ⟨rfl, d1, d2, d3, f1, f2, f3, h4, l4⟩
  have hres4 : w4.heap[w.heap.size]? = some (.cells (evC (ofKind 0) none none none 0 0 0) 30 (0, 0)) :=
    (h4.but.block _ (lt_of_heap HF.out.1) (by rintro (h | h); have := HF.out.2.2.2.2.1 _ h; have := HF.out.2.2.2.2.2.1; omega; have := HF.out.2.2.2.2.2.1; have := HF.out.2.2.2.2.2.2.1; omega)).trans HF.out.1
  have hB4 : Below w.heap.size w w4 := HF.out.2.1.trans (h4.but.below HF.out.2.1.size (fun k hk => by rcases hk with h | h; have := HF.out.2.2.2.2.1 _ h; have := HF.out.2.2.2.2.2.1; omega; have := HF.out.2.2.2.2.2.1; have := HF.out.2.2.2.2.2.2.1; omega))
  have k7 := h4.keep k6 (fun ho => by have := HF.out.2.2.2.1 _ ho; simp only at this; omega) (by simp)
  have hl4 : ∀ k o, (d1 = some ⟨k, o, none⟩ ∨ d2 = some ⟨k, o, none⟩ ∨ d3 = some ⟨k, o, none⟩) → w.heap.size < k := fun k o e => by have := l4.far k o e; have := lt_of_heap HF.out.1; omega
  have CE := Lib.hid (end_any h4.rdr)
  have H4 := Lib.hid (And.intro h4.cells (And.intro hres4 (And.intro hB4 (And.intro (And.intro l4.bands (And.intro l4.slots l4.body)) hl4))))
  clear h4 l4 hres4 hB4 hl4 k6 CF HRB
  go_wp2_with fail
  refine CE.out.mono ?_
  rintro r w5 ⟨rfl, h5⟩
  have H5 := Lib.hid (And.intro ((h5.block _ (lt_of_heap H4.out.1)).trans H4.out.1) (And.intro ((h5.block _ (lt_of_heap H4.out.2.1)).trans H4.out.2.1) (And.intro (bel2 H4.out.2.2.1 h5) h5)))
  clear h5 CE k7
  by_cases he : ge.2.end_ = 0
  · have ne : (((ge.2.end_ : Nat) : Int) == 0) = true := by simp [he]
    have HE := Lib.hid he
    have hg := HG.out
    rw [if_neg (by simp [he])] at hg
    have CR := Lib.hid (right_any (w := w5) (a1 := d1) (a2 := d2) (a3 := d3) (c1 := f1) (c2 := f2) (c3 := f3) ge.1 (H4.out.2.2.2.1.1.on H5.out.2.2.2) (H4.out.2.2.2.1.2.1.on H5.out.2.2.2))
    have HG2 := Lib.hid hg
    clear he hg
    go_wp2_with (first
      | (refine wpList_load_row (by rfl) 30 (.tmp 7) (by rfl) (w1.heap.size + 1) (by rfl) 30 (evC ge.1 d1 d2 d3 f1 f2 f3) (0, 0) _ H5.out.1 Try.underlying30 (by rfl) (by kernel_rfl) ?_))
    refine CR.out.mono ?_
    rintro r w6 ⟨rfl, h6⟩
    have H6 := Lib.hid (And.intro ((h6.block _ (lt_of_heap H5.out.1)).trans H5.out.1) (And.intro ((h6.block _ (lt_of_heap H5.out.2.1)).trans H5.out.2.1) (And.intro (bel2 H5.out.2.2.1 h6) (bel2 H5.out.2.2.2 h6))))
    clear h6 CR
    cases hx : rightR ge.1
    · have hg := HG2.out
      rw [if_neg (by rw [hx]; decide)] at hg
      have HG3 := Lib.hid hg
      clear hx hg
      go_wp2_with (first
        | (refine wpList_store_mid (by rfl) 30 (.tmp 4) (.tmp 27) (by rfl) w.heap.size 0 (evC (ofKind 0) none none none 0 0 0) (by rfl) (by rfl) (there_of_block H6.out.2.1 (Nat.le_refl 27)) (by kernel_rfl) (by kernel_rfl) ?_))
      refine bodyPost_ret (results_row_tmp1 rfl _ _ w.heap.size _ _ _ _ rfl (store27 H6.out.2.1 rfl) Try.underlying30 (by rfl) (by kernel_rfl)) (by rfl) ?_
      refine ⟨none, none, none, 0, 0, 0, ?_, ?_, below_setCells' _ (Nat.le_refl _) _ _ H6.out.2.2.1⟩
      · rw [HG3.out]; rfl
      · rw [HG3.out]; exact ⟨PRow.nil_, PRow.nil_, Sl.nil_, ofKind64 i64_0⟩
    · have hg := HG2.out
      rw [if_pos hx] at hg
      have HG3 := Lib.hid hg
      clear hx hg
      go_wp2_with (first
        | (refine wpList_load_row (by rfl) 30 (.tmp 7) (by rfl) (w1.heap.size + 1) (by rfl) 30 (evC ge.1 d1 d2 d3 f1 f2 f3) (0, 0) _ H6.out.1 Try.underlying30 (by rfl) (by kernel_rfl) ?_)
        | (refine wpList_store_mid (by rfl) 30 (.tmp 4) (.tmp 28) (by rfl) w.heap.size 0 (evC ge.1 d1 d2 d3 f1 f2 f3) (by rfl) (by rfl) (there_of_block H6.out.2.1 (Nat.le_refl 27)) (by kernel_rfl) (by kernel_rfl) ?_))
      refine bodyPost_ret (results_row_tmp1 rfl _ _ w.heap.size _ _ _ _ rfl (store27 H6.out.2.1 rfl) Try.underlying30 (by rfl) (by kernel_rfl)) (by rfl) ?_
      have hb7 : But (fun k => k = w.heap.size) w6 (w6.setCells w.heap.size 0 (evC ge.1 d1 d2 d3 f1 f2 f3).toList) := but_setCells _ _ _ _
      have p1 := (H4.out.2.2.2.1.1.on H6.out.2.2.2)
      have p2 := (H4.out.2.2.2.1.2.1.on H6.out.2.2.2)
      have p3 := ((H4.out.2.2.2.1.2.2.below H6.out.2.2.2 (Nat.le_refl _)).more H6.out.2.2.2.size)
      have q := H4.out.2.2.2.2
      refine ⟨d1, d2, d3, f1, f2, f3, ?_, ?_, below_setCells' _ (Nat.le_refl _) _ _ H6.out.2.2.1⟩
      · rw [HG3.out]; rfl
      · rw [HG3.out]
        exact ⟨p1.keep hb7 (fun _ k o e h => by have := q k o (.inl e); omega), p2.keep hb7 (fun _ k o e h => by have := q k o (.inr (.inl e)); omega),
          p3.same_ hb7.size (fun hp k o e => hb7.block k (by obtain ⟨b', o', e', hlt, _⟩ := p3.at_ hp; rw [e] at e'; injection e' with e'; injection e' with e'; omega) (fun h => by have := q k o (.inr (.inr e)); omega)), HM.out.1⟩
  · have ne : (((ge.2.end_ : Nat) : Int) == 0) = false := by simpa using he
    have hg := HG.out
    rw [if_pos he] at hg
    have HG3 := Lib.hid hg
    clear he hg
    generalize ge.2.end_ = en at *
    go_wp2_with (first
      | (refine wpList_store_mid (by rfl) 30 (.tmp 4) (.tmp 22) (by rfl) w.heap.size 0 (evC (ofKind 0) none none none 0 0 0) (by rfl) (by rfl) (there_of_block H5.out.2.1 (Nat.le_refl 27)) (by kernel_rfl) (by kernel_rfl) ?_))
    refine bodyPost_ret (results_row_tmp1 rfl _ _ w.heap.size _ _ _ _ rfl (store27 H5.out.2.1 rfl) Try.underlying30 (by rfl) (by kernel_rfl)) (by rfl) ?_
    refine ⟨none, none, none, 0, 0, 0, ?_, ?_, below_setCells' _ (Nat.le_refl _) _ _ H5.out.2.2.1⟩
    · rw [HG3.out]; rfl
    · rw [HG3.out]; exact ⟨PRow.nil_, PRow.nil_, Sl.nil_, ofKind64 i64_0⟩
end Go.Proofs.Ytnpakjdgcmbcnaa
