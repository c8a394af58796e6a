/- Contracts of the program's frame: Get and Scan of bytes whose answer is known. 'append(v, x...)' of bytes onto bytes of the call's own, at a step of a region that draws its order. 'append(s, x...)' of bytes onto a slice of bytes without spare room: what comes is the call's own. Contracts of the program's segment: write, Head, read, readHead, Read. Contracts of the program's segment: readHead, Read. The program's log, in memory: where it lies, what its calls leave; the last one's name, Sync. The program's log: steps in turn; Sync; is the last one full. A range over a function whose iterator tells something of memory with what it hands over: the law for the loop. -/
import Derived.Test.YtphjpjlifdabfaaGreatDoorCka
import Derived.Test.YtphjpjlifdabfaaGreatDoorCke
import Derived.Laws.OwnMore
import Derived.Laws.Append
import Derived.Lib.SlBytesConst
import Derived.Lib.EndianBits
import Derived.Deep.QuietTactic
import Derived.BigQuiet
import Derived.RangeFuncNested
import Derived.RangeFuncLeaves
namespace Go.Proofs.YtphjpjlifdabfaaGreatDoor
section
set_option linter.unusedSimpArgs false
set_option linter.unusedVariables false
open Go.RowKit
open Crc Frm

/-- Get, of bytes whose answer is known. -/
theorem get_of {bs : List Nat} {f : Fr} {n er : Nat} (hg : get bs = (f, n, er)) (a : Option Addr) (len cap : Nat) (w : World) (hs : Sl w w.heap.size a len cap bs) :
    Calls Tryz.prog 170 #[.slice a len cap] w fun e w' => ∃ ba bc, e = .returned (.tuple #[.agg #[.int .i64 f.ty, .int .i64 f.seq, .slice ba f.body.length bc], .int .i64 (n : Int), .int .i64 (er : Int)]) ∧
      Sl w' w'.heap.size ba f.body.length bc f.body ∧ Below w.heap.size w w' ∧ (∀ b o, ba = some ⟨b, o, none⟩ → w.heap.size ≤ b) := by
  have := get_any a len cap bs w hs
  rw [hg] at this
  exact this
/-- Scan, of bytes whose answer is known. -/
theorem scan_of {bs : List Nat} {fs : List Fr} {n : Nat} {first : Int} (hg : scan bs first = (fs, n)) (a : Option Addr) (len cap : Nat) (w : World) (hs : Sl w w.heap.size a len cap bs) (hlen : len ≤ 100000) (hf0 : -9223372036854775808 ≤ first) (hf1 : first < 9223372036854775808) :
    Calls Tryz.prog 110 #[.slice a len cap, .int .i64 first] w fun e w' => ∃ va vc, e = .returned (.tuple #[.slice va fs.length vc, .int .i64 (n : Int)]) ∧ Frs w' w'.heap.size va fs.length vc fs ∧ Below w.heap.size w w' := by
  refine (scan_any a len cap bs first w hs hlen hf0 hf1).mono ?_
  rintro e w' ⟨v, ts, rfl, ho, hts, hb⟩
  rw [hg] at hts
  simp only at hts
  obtain ⟨va, vc, hv, hfr⟩ := ho.frs
  rw [hg]
  have hl : ts.length = fs.length := by rw [← hts, List.length_map]
  rw [hts] at hfr
  rw [hl] at hv hfr
  exact ⟨va, vc, by rw [hv], hfr, hb⟩
end
section
set_option linter.unusedSimpArgs false
set_option linter.unusedVariables false
open Go.RowKit

theorem wp_append_sl {P : Program} {w : World} {o : Oper} {a : Act} {K : Act → World → Prop} {Q : Exit → Act → World → Prop} (s x : Operand) (t : TypeId)
    (ho : o.op = .call { callee := .builtin .append, args := #[s, x], argTypes := #[t, t] })
    (base : Nat) (e : TypeId) (ht : P.underlying t = some (.slice e)) (hi : (P.info? e).map (fun i => (i.zero, i.size, i.bytes)) = some (some (.int .u8 0), 1, 1))
    (v : Value) (bs : List Nat) (hs : a.eval s = v) (hown : OwnB w base e v bs)
    (B : Nat) (A : Option Addr) (m c : Nat) (cs : List Nat) (hx : a.eval x = .slice A m c) (hc : Sl w B A m c cs)
    (hbytes : bs.length + m ≤ 140737488355328) (hbase : base ≤ w.heap.size)
    (h : ∀ v' w', OwnB w' base e v' (bs ++ cs) → w.grownBy w' v.ownBlock → (v'.ownBlock = v.ownBlock ∨ v'.ownBlock = some w.heap.size) → K (a.put o.dst v') w') :
    o.wp P a w K Q := by
  obtain ⟨i, hi, hz0, hz1, hz2⟩ := info_parts hi
  cases A with
  | none =>
    have hc0 := hc.none_ rfl
    have hm0 : m = 0 := by have := hc.le; omega
    subst hc0 hm0
    have hcs : cs = [] := List.eq_nil_of_length_eq_zero hc.length
    subst hcs
    have hrun := run_append_owned_none (P := P) (w := w) base t o.type e i 1 ht hi v bs.length (bs.map bv) hown
    unfold Oper.wp
    simp [execOp, ho, resolve, invoke, builtin, hs, hx, hrun, Result.andThen]
    exact h v w (by simpa using hown) (World.grownBy.refl w _) (.inl rfl)
  | some ad =>
    obtain ⟨v', w', hr, h1, h2, h3, h4⟩ := run_append_own_at (P := P) w base t o.type e i (.int .u8 0) 1 1 ht hi hz0 hz1 hz2 rfl (by decide) v bs.length (bs.map bv) hown ad m c (cs.map bv) (by rw [List.length_map, hc.length]; omega) hc.news (bv_one cs)
      (by unfold maxLen; omega) (by omega) hbase
    unfold Oper.wp execOp
    simp only [ho, resolve, invoke, builtin, Sem.run_bind, Sem.run_pure, Result.andThen_ok, List.map_toArray, List.map_cons, List.map_nil, hs, hx, hr]
    refine h v' w' ?_ h2 h4
    have := hc.length
    unfold OwnB
    rw [List.length_append, List.map_append, this]
    exact h1
end
section
set_option linter.unusedSimpArgs false
set_option linter.unusedVariables false
open Go.RowKit

theorem wpList_append_full {P : Program} {w : World} {ops : Array Oper} {rest : List Oper} {o : Oper} {a : Act} {Q : Exit → Act → World → Prop} (hgd : o.guard = none) (s x : Operand) (t : TypeId)
    (ho : o.op = .call { callee := .builtin .append, args := #[s, x], argTypes := #[t, t] })
    (e : TypeId) (ht : P.underlying t = some (.slice e)) (hi : (P.info? e).map (fun i => (i.zero, i.size, i.bytes)) = some (some (.int .u8 0), 1, 1))
    (B : Nat) (A : Addr) (n : Nat) (bs : List Nat) (hs : a.eval s = .slice (some A) n n) (hb : Sl w B (some A) n n bs)
    (B' : Nat) (A' : Addr) (m c : Nat) (cs : List Nat) (hx : a.eval x = .slice (some A') m c) (hc : Sl w B' (some A') m c cs)
    (hm : 0 < m) (hbytes : n + m ≤ 140737488355328)
    (h : ∀ v' w', OwnB w' w.heap.size e v' (bs ++ cs) → Below w.heap.size w w' → wpList P ops Q rest (a.put o.dst v') w') :
    wpList P ops Q (o :: rest) a w := by
  obtain ⟨i, hi, hz0, hz1, hz2⟩ := info_parts hi
  refine wpList_plain hgd fun K hK => ?_
  have hln := hb.length
  have hlm := hc.length
  have hr := run_append_grow (P := P) (w := w) t o.type e i (.int .u8 0) ht hi hz0 A n n (bs.map bv) (by rw [List.length_map, hln, hz1]; omega) hb.news A' m c (cs.map bv) (by rw [List.length_map, hlm, hz1]; omega) hc.news (by omega) (by omega) (growslice_fits (by omega) (by rw [hz2]; omega))
  unfold Oper.wp execOp
  simp only [ho, resolve, invoke, builtin, Sem.run_bind, Sem.run_pure, Result.andThen_ok, List.map_toArray, List.map_cons, List.map_nil, hs, hx, hr]
  refine hK _ _ (h _ _ ?_ ((Below.drew (Below.refl _ _)).alloc (Nat.le_refl _) _))
  have hlen : (bs ++ cs).length = n + m := by rw [List.length_append, hln, hlm]
  have hge := grownCap_ge w (n + m) n e
  have hcm : grownCap w (n + m) n e ≤ maxLen := grownCap_le_maxLen w (n + m) n e (by unfold maxLen; omega)
  unfold OwnB
  rw [hlen]
  refine ⟨by rw [List.length_map, hlen]; omega, .inr ⟨w.heap.size, _, _, rfl, Nat.le_refl _, heap_alloc_new w.drew _, hge, hcm, ?_, ?_⟩⟩
  · simp only [Array.size_append, List.size_toArray, size_zeroCells, List.length_map, hln, hlm]
    simp [Value.cells]
    omega
  · simp only [Array.toList_append, List.append_assoc]
    rw [← List.append_assoc, ← List.map_append, Nat.mul_one]
    rw [← hlen, show (bs ++ cs).length = ((bs ++ cs).map bv).length from (List.length_map _).symm]
    exact List.take_left
end
section
set_option linter.unusedSimpArgs false
set_option linter.unusedVariables false
open Go.RowKit
open Crc Frm

theorem be4_cells (n : Nat) (hn : n < 4294967296) : (#[Value.int .u8 ((n : Int) / 16777216), .int .u8 ((n : Int) / 65536 % 256), .int .u8 ((n : Int) / 256 % 256), .int .u8 ((n : Int) % 256)] : Array Value) = ((be 4 n).map fun c => Value.int .u8 ((c : Nat) : Int)).toArray := by
  have e0 : (n : Int) / 16777216 = (((n / 256 ^ 3 % 256 : Nat)) : Int) := by omega
  have e1 : (n : Int) / 65536 % 256 = (((n / 256 ^ 2 % 256 : Nat)) : Int) := by omega
  have e2 : (n : Int) / 256 % 256 = (((n / 256 ^ 1 % 256 : Nat)) : Int) := by omega
  have e3 : (n : Int) % 256 = (((n / 256 ^ 0 % 256 : Nat)) : Int) := by omega
  rw [e0, e1, e2, e3]
  rfl

set_option maxRecDepth 100000 in
set_option maxHeartbeats 800000 in
theorem swrite_any (v : Value) (bs : List Nat) (base n : Nat) (hn : n < 4294967296) (w : World) (ho : OwnB w base 5 v bs) (hb : base ≤ w.heap.size) (hlen : bs.length ≤ 1000) :
    Calls Tryz.prog 194 #[v, .int .u32 (n : Int)] w fun e w' => ∃ v', e = .returned v' ∧ OwnB w' base 5 v' (bs ++ be 4 n) ∧ Below base w w' := by
  go_enter Tryz.func194, Tryz.ntmps194
  go_wp2_with (at_builtin; refine wpList_append_sl rfl (.tmp 5) (.tmp 17) _ rfl base _ Tryz.underlying38 info_u8 v bs rfl (ho.alloc _) _ (some ⟨w.heap.size, 0, none⟩) 4 4 (be 4 n) rfl (Sl.new (heap_alloc_new w _) (by rw [be4_cells n hn]) (be_byte 4 n) 4 rfl (by rw [be_len]; decide)) (by omega) (by simp; omega) ?_; intro v1 w1 ho1 hg1 hat1)
  go_ret
  exact ⟨_, rfl, ho1, ((Below.refl _ _).alloc hb _).grown hg1 (by simp; omega) (fun k hk => (ho.at_base hk).1)⟩
set_option maxRecDepth 100000 in
set_option maxHeartbeats 800000 in
theorem swrite_full (A : Addr) (m : Nat) (bs : List Nat) (n : Nat) (hn : n < 4294967296) (w : World) (hs : Sl w w.heap.size (some A) m m bs) (hm : m ≤ 1000) :
    Calls Tryz.prog 194 #[.slice (some A) m m, .int .u32 (n : Int)] w fun e w' => ∃ v', e = .returned v' ∧ OwnB w' w.heap.size 5 v' (bs ++ be 4 n) ∧ Below w.heap.size w w' := by
  go_enter Tryz.func194, Tryz.ntmps194
  go_wp2_with (at_builtin; refine wpList_append_full rfl (.tmp 5) (.tmp 17) _ rfl _ Tryz.underlying38 info_u8 _ A m bs rfl (hs.below ((Below.refl _ w).alloc (Nat.le_refl _) _) (Nat.le_refl _)) _ ⟨w.heap.size, 0, none⟩ 4 4 (be 4 n) rfl (Sl.new (heap_alloc_new w _) (by rw [be4_cells n hn]) (be_byte 4 n) 4 rfl (by rw [be_len]; decide)) (by decide) (by omega) ?_; intro v1 w1 ho1 hB1)
  go_ret
  exact ⟨_, rfl, ho1.mono (by simp), ((Below.refl _ _).alloc (Nat.le_refl _) _).trans (hB1.mono (by simp))⟩

set_option linter.unusedSimpArgs false in
set_option maxRecDepth 100000 in
set_option maxHeartbeats 800000 in
theorem sread_any (a : Option Addr) (len cap : Nat) (bs : List Nat) (w : World) (hs : Sl w w.heap.size a len cap bs) (h4 : 4 ≤ len) :
    Calls Tryz.prog 169 #[.slice a len cap] w fun e w' => e = .returned (.int .u32 ((val (bs.take 4) : Nat) : Int)) ∧ Below w.heap.size w w' := by
  obtain ⟨b, o, rfl, hb, hc⟩ := hs.at_ (by omega)
  have c0 := hc 0 (by omega)
  have c1 := hc 1 (by omega)
  have c2 := hc 2 (by omega)
  have c3 := hc 3 (by omega)
  have b0 := hs.lt (k := 0) (by omega)
  have b1 := hs.lt (k := 1) (by omega)
  have b2 := hs.lt (k := 2) (by omega)
  have b3 := hs.lt (k := 3) (by omega)
  have i0 : 0 < len := by omega
  have i1 : (1 : Int) < (len : Int) := by omega
  have i2 : (2 : Int) < (len : Int) := by omega
  have i3 : (3 : Int) < (len : Int) := by omega
  have Hv : Hid (val (bs.take 4) = ((bs.getD 0 0 * 256 + bs.getD 1 0) * 256 + bs.getD 2 0) * 256 + bs.getD 3 0) := by
    show _ = _
    have hl := hs.length
    match bs, hl with
    | x :: y :: z :: u :: t, _ => simp [val]
    | [x, y, z], hl => simp at hl; omega
    | [x, y], hl => simp at hl; omega
    | [x], hl => simp at hl; omega
    | [], hl => simp at hl; omega
  generalize val (bs.take 4) = z at *
  generalize bs.getD 0 0 = x0 at *
  generalize bs.getD 1 0 = x1 at *
  generalize bs.getD 2 0 = x2 at *
  generalize bs.getD 3 0 = x3 at *
  clear hc hs
  have hw0 : IntKind.u32.wrap (x0 : Int) = (x0 : Int) := wraps_u32 _ (by omega) (by omega)
  have hw1 : IntKind.u32.wrap (x1 : Int) = (x1 : Int) := wraps_u32 _ (by omega) (by omega)
  have hw2 : IntKind.u32.wrap (x2 : Int) = (x2 : Int) := wraps_u32 _ (by omega) (by omega)
  have hw3 : IntKind.u32.wrap (x3 : Int) = (x3 : Int) := wraps_u32 _ (by omega) (by omega)
  have hm0 : IntKind.u32.wrap ((x0 : Int) * 16777216) = (x0 : Int) * 16777216 := wraps_u32 _ (by omega) (by omega)
  have hm1 : IntKind.u32.wrap ((x1 : Int) * 65536) = (x1 : Int) * 65536 := wraps_u32 _ (by omega) (by omega)
  have hm2 : IntKind.u32.wrap ((x2 : Int) * 256) = (x2 : Int) * 256 := wraps_u32 _ (by omega) (by omega)
  have e1 : bits .or .u32 ((x0 : Int) * 16777216) ((x1 : Int) * 65536) = (x0 : Int) * 16777216 + (x1 : Int) * 65536 := bits_join .u32 32 (by decide) wraps_u32 24 _ _ (by omega) (by omega) (by omega) (by omega) (by omega) (by omega)
  have e2 : bits .or .u32 ((x0 : Int) * 16777216 + (x1 : Int) * 65536) ((x2 : Int) * 256) = (x0 : Int) * 16777216 + (x1 : Int) * 65536 + (x2 : Int) * 256 := bits_join .u32 32 (by decide) wraps_u32 16 _ _ (by omega) (by omega) (by omega) (by omega) (by omega) (by omega)
  have e3 : bits .or .u32 ((x0 : Int) * 16777216 + (x1 : Int) * 65536 + (x2 : Int) * 256) (x3 : Int) = (z : Int) := (bits_join .u32 32 (by decide) wraps_u32 8 _ _ (by omega) (by omega) (by omega) (by omega) (by omega) (by omega)).trans (by have := Hv.out; omega)
  go_enter Tryz.func169, Tryz.ntmps169
  go_wp2_with fail
  refine wp_region_held_drew (S := fun w' => w'.cell? ⟨b, o, none⟩ = some (.int .u8 (x0 : Int)) ∧ w'.cell? ⟨b, o + 1, none⟩ = some (.int .u8 (x1 : Int)) ∧ w'.cell? ⟨b, o + 2, none⟩ = some (.int .u8 (x2 : Int)) ∧ w'.cell? ⟨b, o + 3, none⟩ = some (.int .u8 (x3 : Int))) (by kernel_rfl) ⟨c0, c1, c2, c3⟩ (fun hHeld => ?_)
  refine wpAnyH_take (i := 0) (v := ?_) rfl (by kernel_rfl) (by kernel_rfl) (by kernel_rfl) (fun _ _ _ h => h) (Or.inl ⟨by rfl, ?_⟩) (by assumption) ?_
  rotate_left
  · intro w hSw
    (try dsimp only at hSw)
    go_simp
    all_goals with_reducible rfl
  try simp only [Act.put, List.getElem_toArray, List.getElem_cons_succ, List.getElem_cons_zero, List.setIfInBounds_toArray, List.set_cons_zero, List.set_cons_succ]
  refine wpAnyH_take (i := 1) (v := ?_) rfl (by kernel_rfl) (by kernel_rfl) (by kernel_rfl) (fun _ _ _ h => h) (Or.inl ⟨by rfl, ?_⟩) (by assumption) ?_
  rotate_left
  · intro w hSw
    (try dsimp only at hSw)
    go_simp
    all_goals with_reducible rfl
  try simp only [Act.put, List.getElem_toArray, List.getElem_cons_succ, List.getElem_cons_zero, List.setIfInBounds_toArray, List.set_cons_zero, List.set_cons_succ]
  refine wpAnyH_take (i := 2) (v := ?_) rfl (by kernel_rfl) (by kernel_rfl) (by kernel_rfl) (fun _ _ _ h => h) (Or.inl ⟨by rfl, ?_⟩) (by assumption) ?_
  rotate_left
  · intro w hSw
    (try dsimp only at hSw)
    go_simp
    all_goals with_reducible rfl
  try simp only [Act.put, List.getElem_toArray, List.getElem_cons_succ, List.getElem_cons_zero, List.setIfInBounds_toArray, List.set_cons_zero, List.set_cons_succ]
  refine wpAnyH_take (i := 3) (v := ?_) rfl (by kernel_rfl) (by kernel_rfl) (by kernel_rfl) (fun _ _ _ h => h) (Or.inl ⟨by rfl, ?_⟩) (by assumption) ?_
  rotate_left
  · intro w hSw
    (try dsimp only at hSw)
    go_simp
    all_goals with_reducible rfl
  try simp only [Act.put, List.getElem_toArray, List.getElem_cons_succ, List.getElem_cons_zero, List.setIfInBounds_toArray, List.set_cons_zero, List.set_cons_succ]
  refine wpAnyH_take (i := 4) (v := ?_) rfl (by kernel_rfl) (by kernel_rfl) (by kernel_rfl) (fun _ _ _ h => h) (Or.inl ⟨by rfl, ?_⟩) (by assumption) ?_
  rotate_left
  · intro w hSw
    (try dsimp only at hSw)
    go_simp
    all_goals with_reducible rfl
  try simp only [Act.put, List.getElem_toArray, List.getElem_cons_succ, List.getElem_cons_zero, List.setIfInBounds_toArray, List.set_cons_zero, List.set_cons_succ]
  refine wpAnyH_take (i := 5) (v := ?_) rfl (by kernel_rfl) (by kernel_rfl) (by kernel_rfl) (fun _ _ _ h => h) (Or.inl ⟨by rfl, ?_⟩) (by assumption) ?_
  rotate_left
  · intro w hSw
    (try dsimp only at hSw)
    go_simp
    all_goals with_reducible rfl
  try simp only [Act.put, List.getElem_toArray, List.getElem_cons_succ, List.getElem_cons_zero, List.setIfInBounds_toArray, List.set_cons_zero, List.set_cons_succ]
  refine wpAnyH_take (i := 6) (v := ?_) rfl (by kernel_rfl) (by kernel_rfl) (by kernel_rfl) (fun _ _ _ h => h) (Or.inl ⟨by rfl, ?_⟩) (by assumption) ?_
  rotate_left
  · intro w hSw
    (try dsimp only at hSw)
    go_simp
    all_goals with_reducible rfl
  try simp only [Act.put, List.getElem_toArray, List.getElem_cons_succ, List.getElem_cons_zero, List.setIfInBounds_toArray, List.set_cons_zero, List.set_cons_succ]
  refine wpAnyH_take (i := 7) (v := ?_) rfl (by kernel_rfl) (by kernel_rfl) (by kernel_rfl) (fun _ _ _ h => h) (Or.inl ⟨by rfl, ?_⟩) (by assumption) ?_
  rotate_left
  · intro w hSw
    (try dsimp only at hSw)
    go_simp
    all_goals with_reducible rfl
  try simp only [Act.put, List.getElem_toArray, List.getElem_cons_succ, List.getElem_cons_zero, List.setIfInBounds_toArray, List.set_cons_zero, List.set_cons_succ]
  refine wpAnyH_take (i := 8) (v := ?_) rfl (by kernel_rfl) (by kernel_rfl) (by kernel_rfl) (fun _ _ _ h => h) (Or.inl ⟨by rfl, ?_⟩) (by assumption) ?_
  rotate_left
  · intro w hSw
    (try dsimp only at hSw)
    go_simp
    all_goals with_reducible rfl
  try simp only [Act.put, List.getElem_toArray, List.getElem_cons_succ, List.getElem_cons_zero, List.setIfInBounds_toArray, List.set_cons_zero, List.set_cons_succ]
  refine wpAnyH_take (i := 9) (v := ?_) rfl (by kernel_rfl) (by kernel_rfl) (by kernel_rfl) (fun _ _ _ h => h) (Or.inl ⟨by rfl, ?_⟩) (by assumption) ?_
  rotate_left
  · intro w hSw
    (try dsimp only at hSw)
    go_simp
    all_goals with_reducible rfl
  try simp only [Act.put, List.getElem_toArray, List.getElem_cons_succ, List.getElem_cons_zero, List.setIfInBounds_toArray, List.set_cons_zero, List.set_cons_succ]
  refine wpAnyH_take (i := 10) (v := ?_) rfl (by kernel_rfl) (by kernel_rfl) (by kernel_rfl) (fun _ _ _ h => h) (Or.inl ⟨by rfl, ?_⟩) (by assumption) ?_
  rotate_left
  · intro w hSw
    (try dsimp only at hSw)
    go_simp
    all_goals with_reducible rfl
  try simp only [Act.put, List.getElem_toArray, List.getElem_cons_succ, List.getElem_cons_zero, List.setIfInBounds_toArray, List.set_cons_zero, List.set_cons_succ]
  refine wpAnyH_take (i := 11) (v := ?_) rfl (by kernel_rfl) (by kernel_rfl) (by kernel_rfl) (fun _ _ _ h => h) (Or.inl ⟨by rfl, ?_⟩) (by assumption) ?_
  rotate_left
  · intro w hSw
    (try dsimp only at hSw)
    go_simp
    all_goals with_reducible rfl
  try simp only [Act.put, List.getElem_toArray, List.getElem_cons_succ, List.getElem_cons_zero, List.setIfInBounds_toArray, List.set_cons_zero, List.set_cons_succ]
  refine wpAnyH_take (i := 12) (v := ?_) rfl (by kernel_rfl) (by kernel_rfl) (by kernel_rfl) (fun _ _ _ h => h) (Or.inl ⟨by rfl, ?_⟩) (by assumption) ?_
  rotate_left
  · intro w hSw
    (try dsimp only at hSw)
    go_simp
    all_goals with_reducible rfl
  try simp only [Act.put, List.getElem_toArray, List.getElem_cons_succ, List.getElem_cons_zero, List.setIfInBounds_toArray, List.set_cons_zero, List.set_cons_succ]
  refine wpAnyH_take (i := 13) (v := ?_) rfl (by kernel_rfl) (by kernel_rfl) (by kernel_rfl) (fun _ _ _ h => h) (Or.inl ⟨by rfl, ?_⟩) (by assumption) ?_
  rotate_left
  · intro w hSw
    (try dsimp only at hSw)
    go_simp
    all_goals with_reducible rfl
  try simp only [Act.put, List.getElem_toArray, List.getElem_cons_succ, List.getElem_cons_zero, List.setIfInBounds_toArray, List.set_cons_zero, List.set_cons_succ]
  refine wpAnyH_take (i := 14) (v := ?_) rfl (by kernel_rfl) (by kernel_rfl) (by kernel_rfl) (fun _ _ _ h => h) (Or.inl ⟨by rfl, ?_⟩) (by assumption) ?_
  rotate_left
  · intro w hSw
    (try dsimp only at hSw)
    go_simp
    all_goals with_reducible rfl
  try simp only [Act.put, List.getElem_toArray, List.getElem_cons_succ, List.getElem_cons_zero, List.setIfInBounds_toArray, List.set_cons_zero, List.set_cons_succ]
  refine wpAnyH_take (i := 15) (v := ?_) rfl (by kernel_rfl) (by kernel_rfl) (by kernel_rfl) (fun _ _ _ h => h) (Or.inl ⟨by rfl, ?_⟩) (by assumption) ?_
  rotate_left
  · intro w hSw
    (try dsimp only at hSw)
    go_simp
    all_goals with_reducible rfl
  try simp only [Act.put, List.getElem_toArray, List.getElem_cons_succ, List.getElem_cons_zero, List.setIfInBounds_toArray, List.set_cons_zero, List.set_cons_succ]
  refine wpAnyH_take (i := 16) (v := ?_) rfl (by kernel_rfl) (by kernel_rfl) (by kernel_rfl) (fun _ _ _ h => h) (Or.inl ⟨by rfl, ?_⟩) (by assumption) ?_
  rotate_left
  · intro w hSw
    (try dsimp only at hSw)
    go_simp
    all_goals with_reducible rfl
  try simp only [Act.put, List.getElem_toArray, List.getElem_cons_succ, List.getElem_cons_zero, List.setIfInBounds_toArray, List.set_cons_zero, List.set_cons_succ]
  refine wpAnyH_take (i := 17) (v := ?_) rfl (by kernel_rfl) (by kernel_rfl) (by kernel_rfl) (fun _ _ _ h => h) (Or.inl ⟨by rfl, ?_⟩) (by assumption) ?_
  rotate_left
  · intro w hSw
    (try dsimp only at hSw)
    go_simp
    all_goals with_reducible rfl
  try simp only [Act.put, List.getElem_toArray, List.getElem_cons_succ, List.getElem_cons_zero, List.setIfInBounds_toArray, List.set_cons_zero, List.set_cons_succ]
  refine wpAnyH_take (i := 18) (v := ?_) rfl (by kernel_rfl) (by kernel_rfl) (by kernel_rfl) (fun _ _ _ h => h) (Or.inl ⟨by rfl, ?_⟩) (by assumption) ?_
  rotate_left
  · intro w hSw
    (try dsimp only at hSw)
    go_simp
    all_goals with_reducible rfl
  try simp only [Act.put, List.getElem_toArray, List.getElem_cons_succ, List.getElem_cons_zero, List.setIfInBounds_toArray, List.set_cons_zero, List.set_cons_succ]
  refine wpAnyH_take (i := 19) (v := ?_) rfl (by kernel_rfl) (by kernel_rfl) (by kernel_rfl) (fun _ _ _ h => h) (Or.inl ⟨by rfl, ?_⟩) (by assumption) ?_
  rotate_left
  · intro w hSw
    (try dsimp only at hSw)
    go_simp
    all_goals with_reducible rfl
  try simp only [Act.put, List.getElem_toArray, List.getElem_cons_succ, List.getElem_cons_zero, List.setIfInBounds_toArray, List.set_cons_zero, List.set_cons_succ]
  refine wpAnyH_take (i := 20) (v := ?_) rfl (by kernel_rfl) (by kernel_rfl) (by kernel_rfl) (fun _ _ _ h => h) (Or.inl ⟨by rfl, ?_⟩) (by assumption) ?_
  rotate_left
  · intro w hSw
    (try dsimp only at hSw)
    go_simp
    all_goals with_reducible rfl
  try simp only [Act.put, List.getElem_toArray, List.getElem_cons_succ, List.getElem_cons_zero, List.setIfInBounds_toArray, List.set_cons_zero, List.set_cons_succ]
  refine wpAnyH_take (i := 21) (v := ?_) rfl (by kernel_rfl) (by kernel_rfl) (by kernel_rfl) (fun _ _ _ h => h) (Or.inl ⟨by rfl, ?_⟩) (by assumption) ?_
  rotate_left
  · intro w hSw
    (try dsimp only at hSw)
    go_simp
    all_goals with_reducible rfl
  try simp only [Act.put, List.getElem_toArray, List.getElem_cons_succ, List.getElem_cons_zero, List.setIfInBounds_toArray, List.set_cons_zero, List.set_cons_succ]
  refine wpAnyH_take (i := 22) (v := ?_) rfl (by kernel_rfl) (by kernel_rfl) (by kernel_rfl) (fun _ _ _ h => h) (Or.inl ⟨by rfl, ?_⟩) (by assumption) ?_
  rotate_left
  · intro w hSw
    (try dsimp only at hSw)
    go_simp
    all_goals with_reducible rfl
  try simp only [Act.put, List.getElem_toArray, List.getElem_cons_succ, List.getElem_cons_zero, List.setIfInBounds_toArray, List.set_cons_zero, List.set_cons_succ]
  refine wpAnyH_done (by kernel_rfl) ?_ _
  go_wp2
  go_ret
  exact ⟨rfl, Below.drew (Below.refl _ _)⟩

set_option maxRecDepth 100000 in
set_option maxHeartbeats 800000 in
theorem segHead_yes (n : Nat) (hn : n ≤ 1073741824) (w : World) :
    Calls Tryz.prog 151 #[.int .i64 (n : Int)] w fun e w' => ∃ v, e = .returned v ∧ OwnB w' w.heap.size 5 v (head n) ∧ Below w.heap.size w w' := by
  have hi := Lib.hid (first_yes (n : Int) (by omega) (by omega))
  have hwn : IntKind.u32.wrap (n : Int) = (n : Int) := wraps_u32 _ (by omega) (by omega)
  have kc := fun (w : World) (C : Array Value) (n c : Nat) => Lib.run_convert_bytes_const (P := Tryz.prog) w 38 5 C n c Tryz.underlying38 Tryz.underlying5
  have W1 := Lib.hid (swrite_full ⟨w.heap.size, 0, none⟩ 4 magic n (by omega) (w.alloc (.cells #[.int .u8 71, .int .u8 79, .int .u8 86, .int .u8 49] 5 (4, 5))) (Sl.new (heap_alloc_new w _) (by rfl) (by decide) 4 rfl (by decide)) (by decide))
  go_enter Tryz.func151, Tryz.ntmps151
  go_wp2_with (first | (go_at_call 106; refine (hi.out _).mono ?_; rintro e w1 ⟨rfl, rfl⟩) | fail)
  refine W1.out.mono ?_
  rintro e w2 ⟨v2, rfl, ho2, hb2⟩
  have ho2 := ho2.mono (base' := w.heap.size) (by simp)
  have hB2 : Below w.heap.size w w2 := ((Below.refl _ _).alloc (Nat.le_refl _) _).trans (hb2.mono (by simp))
  obtain ⟨a2, c2, hv2, hs2⟩ := ho2.sl (hd0_byte n)
  rw [show (magic ++ be 4 n).length = 8 from hd0_len n] at hv2 hs2
  subst hv2
  have OF := Lib.hid (of_any a2 8 c2 _ w2 hs2)
  have hml := more_lt 0 (magic ++ be 4 n)
  have H2 := Lib.hid (And.intro ho2 hB2)
  clear hb2 ho2 hB2 hs2 W1 hi kc
  go_wp2_with fail
  refine OF.out.mono ?_
  rintro e w3 ⟨rfl, hb3⟩
  have hB3 := H2.out.2.trans (hb3.mono H2.out.2.size)
  have W3 := Lib.hid (swrite_any _ _ w.heap.size _ hml w3 (H2.out.1.below hb3) hB3.size (by rw [show (magic ++ be 4 n).length = 8 from hd0_len n]; decide))
  have HB3 := Lib.hid hB3
  clear hb3 hB3 H2 OF
  go_wp2_with fail
  refine W3.out.mono ?_
  rintro e w4 ⟨v4, rfl, ho4, hb4⟩
  have HH := Lib.hid (And.intro ho4 (HB3.out.trans hb4))
  clear ho4 hb4 W3 HB3
  go_wp2
  go_ret
  exact ⟨_, rfl, HH.out.1, HH.out.2⟩
theorem segHead_no (n : Int) (h : ¬ (0 ≤ n ∧ n ≤ 1073741824)) (w : World) :
    Calls Tryz.prog 151 #[.int .i64 n] w fun e w' => e = .returned (.slice none 0 0) ∧ w = w' := by
  have hi := Lib.hid (first_no n h)
  clear h
  go_enter Tryz.func151, Tryz.ntmps151
  go_wp2_with (first | (go_at_call 106; refine (hi.out _).mono ?_; rintro e w1 ⟨rfl, rfl⟩) | fail)
  go_ret
  exact ⟨rfl, rfl⟩
end
section
set_option linter.unusedSimpArgs false
set_option linter.unusedVariables false
open Go.RowKit
open Crc Frm

theorem val4_lt {bs : List Nat} (hb : ∀ c ∈ bs, c < 256) (k : Nat) : val ((bs.drop k).take 4) < 4294967296 := by
  have h1 := val_lt ((bs.drop k).take 4) (fun c hc => hb c (List.mem_of_mem_drop (List.mem_of_mem_take hc)))
  have h2 : ((bs.drop k).take 4).length ≤ 4 := List.length_take_le _ _
  have h3 := Nat.pow_le_pow_right (n := 256) (by decide) h2
  omega

set_option linter.unusedSimpArgs false in
set_option maxRecDepth 100000 in
set_option maxHeartbeats 1600000 in
theorem readHead_any (a : Option Addr) (len cap : Nat) (bs : List Nat) (w : World) (hs : Sl w w.heap.size a len cap bs) :
    Calls Tryz.prog 109 #[.slice a len cap] w fun e w' => e = .returned (.tuple #[.int .i64 (((rh bs).1 : Nat) : Int), .int .i64 (((rh bs).2 : Nat) : Int)]) ∧ Below w.heap.size w w' := by
  have hbl := hs.length
  have hle := hs.le
  have hmx := hs.max
  unfold maxLen at hmx
  by_cases h12 : len < 12
  · have hr : rh bs = (0, 13) := by unfold rh; rw [if_pos (by omega)]
    rw [hr]
    have h12' : (len : Int) < 12 := by omega
    go_enter Tryz.func109, Tryz.ntmps109
    go_wp2
    go_ret2
    exact ⟨rfl, Below.refl _ _⟩
  · have h12' : (12 : Int) ≤ (len : Int) := by omega
    have s4 := hs.take (k := 4) (by omega)
    have c4 : ∀ w, (Instr.slice 38 (.slice a len cap) none (some (.int .i64 4)) none).run Tryz.prog w = .ok (.slice a 4 cap) w := run_cut_to (P := Tryz.prog) 38 5 Tryz.underlying38 info_u8 a len cap 4 (by omega)
    have cv := run_str (P := Tryz.prog) s4 38 5 9 Tryz.underlying38 Tryz.underlying5 Tryz.underlying9
    have hmg : strOf magic = ⟨#[71, 79, 86, 49]⟩ := by decide +kernel
    by_cases hm : bs.take 4 = magic
    · rw [hm, hmg] at cv
      have s8 := hs.take (k := 8) (by omega)
      have c8 : ∀ w, (Instr.slice 38 (.slice a len cap) none (some (.int .i64 8)) none).run Tryz.prog w = .ok (.slice a 8 cap) w := run_cut_to (P := Tryz.prog) 38 5 Tryz.underlying38 info_u8 a len cap 8 (by omega)
      have f8 := hs.from_ (k := 8) (by omega)
      have d8 : ∀ w, (Instr.slice 38 (.slice a len cap) (some (.int .i64 8)) none none).run Tryz.prog w = .ok (.slice (fromA a cap 8) (len - 8) (cap - 8)) w := run_cut_from (P := Tryz.prog) 38 5 Tryz.underlying38 info_u8 a len cap 8 (by omega)
      have f4 := hs.from_ (k := 4) (by omega)
      have d4 : ∀ w, (Instr.slice 38 (.slice a len cap) (some (.int .i64 4)) none none).run Tryz.prog w = .ok (.slice (fromA a cap 4) (len - 4) (cap - 4)) w := run_cut_from (P := Tryz.prog) 38 5 Tryz.underlying38 info_u8 a len cap 4 (by omega)
      generalize fromA a cap 8 = a8 at f8 d8
      generalize cap - 8 = k8 at f8 d8
      generalize hl8 : len - 8 = l8 at f8 d8
      generalize fromA a cap 4 = a4 at f4 d4
      generalize cap - 4 = k4 at f4 d4
      generalize hl4 : len - 4 = l4 at f4 d4
      have R8 := Lib.hid (sread_any a8 l8 k8 _ w.drew f8.drew (by omega))
      have OF := Lib.hid (fun (w' : World) (hb : Below w.heap.size w w') => of_any a 8 cap _ w' ((s8.below hb (Nat.le_refl _)).more hb.size))
      have R4 := Lib.hid (fun (w' : World) (hb : Below w.heap.size w w') => sread_any a4 l4 k4 _ w' ((f4.below hb (Nat.le_refl _)).more hb.size) (by omega))
      have hv4 := val4_lt hs.byte 4
      have Hr : Hid (rh bs = if val ((bs.drop 8).take 4) ≠ more 0 (bs.take 8) then (0, 14) else if 1073741824 < val ((bs.drop 4).take 4) then (0, 12) else (val ((bs.drop 4).take 4), 0)) := by
        show _ = _; unfold rh; rw [if_neg (by omega), if_neg (by rw [hm]; exact fun h => h rfl)]
      generalize rh bs = r at Hr ⊢
      generalize val ((bs.drop 8).take 4) = z8 at R8 Hr
      generalize val ((bs.drop 4).take 4) = z4 at R4 Hr hv4
      generalize more 0 (bs.take 8) = zs at OF Hr
      clear f8 f4 s8 s4 hl8 hl4 hs hm hmg
      by_cases h8 : z8 = zs
      · subst h8
        have r1 : ((z8 : Int) != (z8 : Int)) = false := by simp
        have hwz : IntKind.i64.wrap (z4 : Int) = (z4 : Int) := by rw [IntKind.wrap_i64]; omega
        by_cases h30 : z4 ≤ 1073741824
        · have hf := Lib.hid (first_yes (z4 : Int) (by omega) (by omega))
          have hr := Hr.out
          rw [if_neg (by simp), if_neg (by omega)] at hr
          rw [hr]
          clear hr Hr
          go_enter Tryz.func109, Tryz.ntmps109
          go_wp2_with fail
          refine wp_region_held_drew (S := fun w' => Below w.heap.size w w') (by kernel_rfl) (Below.drew (Below.refl _ _)) (fun hHeld => ?_)
          refine wpAnyH_take (i := 0) (v := ?_) rfl (by kernel_rfl) (by kernel_rfl) (by kernel_rfl) (fun _ _ _ h => h) (Or.inl ⟨by rfl, ?_⟩) (by assumption) ?_
          rotate_left
          · intro w hSw
            (try dsimp only at hSw)
            go_simp
            all_goals with_reducible rfl
          try simp only [Act.put, List.getElem_toArray, List.getElem_cons_succ, List.getElem_cons_zero, List.setIfInBounds_toArray, List.set_cons_zero, List.set_cons_succ]
          refine wpAnyH_take (i := 1) (v := ?_) rfl (by kernel_rfl) (by kernel_rfl) (by kernel_rfl) (fun _ _ _ h => h) (Or.inl ⟨by rfl, ?_⟩) (by assumption) ?_
          rotate_left
          · intro w hSw
            (try dsimp only at hSw)
            go_simp
            all_goals with_reducible rfl
          try simp only [Act.put, List.getElem_toArray, List.getElem_cons_succ, List.getElem_cons_zero, List.setIfInBounds_toArray, List.set_cons_zero, List.set_cons_succ]
          refine wpAnyH_take (i := 3) (v := ?_) rfl (by kernel_rfl) (by kernel_rfl) (by kernel_rfl) (fun _ _ _ h => h) (Or.inl ⟨by rfl, ?_⟩) (by assumption) ?_
          rotate_left
          · intro w hSw
            (try dsimp only at hSw)
            go_simp
            all_goals with_reducible rfl
          try simp only [Act.put, List.getElem_toArray, List.getElem_cons_succ, List.getElem_cons_zero, List.setIfInBounds_toArray, List.set_cons_zero, List.set_cons_succ]
          refine wpAnyH_take (i := 4) (v := ?_) rfl (by kernel_rfl) (by kernel_rfl) (by kernel_rfl) (fun _ _ _ h => h) (Or.inl ⟨by rfl, ?_⟩) (by assumption) ?_
          rotate_left
          · intro w hSw
            (try dsimp only at hSw)
            go_simp
            all_goals with_reducible rfl
          try simp only [Act.put, List.getElem_toArray, List.getElem_cons_succ, List.getElem_cons_zero, List.setIfInBounds_toArray, List.set_cons_zero, List.set_cons_succ]
          refine wpAnyH_ready (rs := [2]) (by kernel_rfl) (by simp) ?_
          refine AllReadyH.cons rfl (fun K hK => ?_) AllReadyH.nil
          rw [if_pos (by rfl)]
          go_simp
          go_at_call 169
          refine R8.out.mono ?_
          rintro e w2 ⟨rfl, hb2⟩
          have hB2 : Below w.heap.size w w2 := below_drew_of hb2
          clear hb2
          refine hK.out _ _ ?_ (fun hHeld => ?_)
          · exact hB2
          clear hK K
          try simp only [Act.put, List.getElem_toArray, List.getElem_cons_succ, List.getElem_cons_zero, List.setIfInBounds_toArray, List.set_cons_zero, List.set_cons_succ]
          refine wpAnyH_ready (rs := [5]) (by kernel_rfl) (by simp) ?_
          refine AllReadyH.cons rfl (fun K hK => ?_) AllReadyH.nil
          rw [if_pos (by rfl)]
          go_simp
          go_at_call 131
          refine (OF.out _ hB2).mono ?_
          rintro e w3 ⟨rfl, hb3⟩
          have hB3 := hB2.trans (hb3.mono hB2.size)
          clear hb3
          refine hK.out _ _ ?_ (fun hHeld => ?_)
          · exact hB3
          clear hK K
          try simp only [Act.put, List.getElem_toArray, List.getElem_cons_succ, List.getElem_cons_zero, List.setIfInBounds_toArray, List.set_cons_zero, List.set_cons_succ]
          refine wpAnyH_take (i := 6) (v := ?_) rfl (by kernel_rfl) (by kernel_rfl) (by kernel_rfl) (fun _ _ _ h => h) (Or.inl ⟨by rfl, ?_⟩) (by assumption) ?_
          rotate_left
          · intro w hSw
            (try dsimp only at hSw)
            go_simp
            all_goals with_reducible rfl
          try simp only [Act.put, List.getElem_toArray, List.getElem_cons_succ, List.getElem_cons_zero, List.setIfInBounds_toArray, List.set_cons_zero, List.set_cons_succ]
          refine wpAnyH_done (by kernel_rfl) ?_ _
          clear hB2 hHeld OF R8
          go_wp2_with (first
            | (go_at_call 169; refine (R4.out _ hB3).mono ?_; rintro e w4 ⟨rfl, hb4⟩)
            | (go_at_call 106; refine (hf.out _).mono ?_; rintro e w5 ⟨rfl, rfl⟩))
          go_ret2
          exact ⟨rfl, hB3.trans (hb4.mono hB3.size)⟩
        · have hf := Lib.hid (first_no (z4 : Int) (by omega))
          have hr := Hr.out
          rw [if_neg (by simp), if_pos (by omega)] at hr
          rw [hr]
          clear hr Hr
          go_enter Tryz.func109, Tryz.ntmps109
          go_wp2_with fail
          refine wp_region_held_drew (S := fun w' => Below w.heap.size w w') (by kernel_rfl) (Below.drew (Below.refl _ _)) (fun hHeld => ?_)
          refine wpAnyH_take (i := 0) (v := ?_) rfl (by kernel_rfl) (by kernel_rfl) (by kernel_rfl) (fun _ _ _ h => h) (Or.inl ⟨by rfl, ?_⟩) (by assumption) ?_
          rotate_left
          · intro w hSw
            (try dsimp only at hSw)
            go_simp
            all_goals with_reducible rfl
          try simp only [Act.put, List.getElem_toArray, List.getElem_cons_succ, List.getElem_cons_zero, List.setIfInBounds_toArray, List.set_cons_zero, List.set_cons_succ]
          refine wpAnyH_take (i := 1) (v := ?_) rfl (by kernel_rfl) (by kernel_rfl) (by kernel_rfl) (fun _ _ _ h => h) (Or.inl ⟨by rfl, ?_⟩) (by assumption) ?_
          rotate_left
          · intro w hSw
            (try dsimp only at hSw)
            go_simp
            all_goals with_reducible rfl
          try simp only [Act.put, List.getElem_toArray, List.getElem_cons_succ, List.getElem_cons_zero, List.setIfInBounds_toArray, List.set_cons_zero, List.set_cons_succ]
          refine wpAnyH_take (i := 3) (v := ?_) rfl (by kernel_rfl) (by kernel_rfl) (by kernel_rfl) (fun _ _ _ h => h) (Or.inl ⟨by rfl, ?_⟩) (by assumption) ?_
          rotate_left
          · intro w hSw
            (try dsimp only at hSw)
            go_simp
            all_goals with_reducible rfl
          try simp only [Act.put, List.getElem_toArray, List.getElem_cons_succ, List.getElem_cons_zero, List.setIfInBounds_toArray, List.set_cons_zero, List.set_cons_succ]
          refine wpAnyH_take (i := 4) (v := ?_) rfl (by kernel_rfl) (by kernel_rfl) (by kernel_rfl) (fun _ _ _ h => h) (Or.inl ⟨by rfl, ?_⟩) (by assumption) ?_
          rotate_left
          · intro w hSw
            (try dsimp only at hSw)
            go_simp
            all_goals with_reducible rfl
          try simp only [Act.put, List.getElem_toArray, List.getElem_cons_succ, List.getElem_cons_zero, List.setIfInBounds_toArray, List.set_cons_zero, List.set_cons_succ]
          refine wpAnyH_ready (rs := [2]) (by kernel_rfl) (by simp) ?_
          refine AllReadyH.cons rfl (fun K hK => ?_) AllReadyH.nil
          rw [if_pos (by rfl)]
          go_simp
          go_at_call 169
          refine R8.out.mono ?_
          rintro e w2 ⟨rfl, hb2⟩
          have hB2 : Below w.heap.size w w2 := below_drew_of hb2
          clear hb2
          refine hK.out _ _ ?_ (fun hHeld => ?_)
          · exact hB2
          clear hK K
          try simp only [Act.put, List.getElem_toArray, List.getElem_cons_succ, List.getElem_cons_zero, List.setIfInBounds_toArray, List.set_cons_zero, List.set_cons_succ]
          refine wpAnyH_ready (rs := [5]) (by kernel_rfl) (by simp) ?_
          refine AllReadyH.cons rfl (fun K hK => ?_) AllReadyH.nil
          rw [if_pos (by rfl)]
          go_simp
          go_at_call 131
          refine (OF.out _ hB2).mono ?_
          rintro e w3 ⟨rfl, hb3⟩
          have hB3 := hB2.trans (hb3.mono hB2.size)
          clear hb3
          refine hK.out _ _ ?_ (fun hHeld => ?_)
          · exact hB3
          clear hK K
          try simp only [Act.put, List.getElem_toArray, List.getElem_cons_succ, List.getElem_cons_zero, List.setIfInBounds_toArray, List.set_cons_zero, List.set_cons_succ]
          refine wpAnyH_take (i := 6) (v := ?_) rfl (by kernel_rfl) (by kernel_rfl) (by kernel_rfl) (fun _ _ _ h => h) (Or.inl ⟨by rfl, ?_⟩) (by assumption) ?_
          rotate_left
          · intro w hSw
            (try dsimp only at hSw)
            go_simp
            all_goals with_reducible rfl
          try simp only [Act.put, List.getElem_toArray, List.getElem_cons_succ, List.getElem_cons_zero, List.setIfInBounds_toArray, List.set_cons_zero, List.set_cons_succ]
          refine wpAnyH_done (by kernel_rfl) ?_ _
          clear hB2 hHeld OF R8
          go_wp2_with (first
            | (go_at_call 169; refine (R4.out _ hB3).mono ?_; rintro e w4 ⟨rfl, hb4⟩)
            | (go_at_call 106; refine (hf.out _).mono ?_; rintro e w5 ⟨rfl, rfl⟩))
          go_ret2
          exact ⟨rfl, hB3.trans (hb4.mono hB3.size)⟩
      · have r1 : ((z8 : Int) != (zs : Int)) = true := by simp; omega
        have hr := Hr.out
        rw [if_pos h8] at hr
        rw [hr]
        clear hr Hr h8
        go_enter Tryz.func109, Tryz.ntmps109
        go_wp2_with fail
        refine wp_region_held_drew (S := fun w' => Below w.heap.size w w') (by kernel_rfl) (Below.drew (Below.refl _ _)) (fun hHeld => ?_)
        refine wpAnyH_take (i := 0) (v := ?_) rfl (by kernel_rfl) (by kernel_rfl) (by kernel_rfl) (fun _ _ _ h => h) (Or.inl ⟨by rfl, ?_⟩) (by assumption) ?_
        rotate_left
        · intro w hSw
          (try dsimp only at hSw)
          go_simp
          all_goals with_reducible rfl
        try simp only [Act.put, List.getElem_toArray, List.getElem_cons_succ, List.getElem_cons_zero, List.setIfInBounds_toArray, List.set_cons_zero, List.set_cons_succ]
        refine wpAnyH_take (i := 1) (v := ?_) rfl (by kernel_rfl) (by kernel_rfl) (by kernel_rfl) (fun _ _ _ h => h) (Or.inl ⟨by rfl, ?_⟩) (by assumption) ?_
        rotate_left
        · intro w hSw
          (try dsimp only at hSw)
          go_simp
          all_goals with_reducible rfl
        try simp only [Act.put, List.getElem_toArray, List.getElem_cons_succ, List.getElem_cons_zero, List.setIfInBounds_toArray, List.set_cons_zero, List.set_cons_succ]
        refine wpAnyH_take (i := 3) (v := ?_) rfl (by kernel_rfl) (by kernel_rfl) (by kernel_rfl) (fun _ _ _ h => h) (Or.inl ⟨by rfl, ?_⟩) (by assumption) ?_
        rotate_left
        · intro w hSw
          (try dsimp only at hSw)
          go_simp
          all_goals with_reducible rfl
        try simp only [Act.put, List.getElem_toArray, List.getElem_cons_succ, List.getElem_cons_zero, List.setIfInBounds_toArray, List.set_cons_zero, List.set_cons_succ]
        refine wpAnyH_take (i := 4) (v := ?_) rfl (by kernel_rfl) (by kernel_rfl) (by kernel_rfl) (fun _ _ _ h => h) (Or.inl ⟨by rfl, ?_⟩) (by assumption) ?_
        rotate_left
        · intro w hSw
          (try dsimp only at hSw)
          go_simp
          all_goals with_reducible rfl
        try simp only [Act.put, List.getElem_toArray, List.getElem_cons_succ, List.getElem_cons_zero, List.setIfInBounds_toArray, List.set_cons_zero, List.set_cons_succ]
        refine wpAnyH_ready (rs := [2]) (by kernel_rfl) (by simp) ?_
        refine AllReadyH.cons rfl (fun K hK => ?_) AllReadyH.nil
        rw [if_pos (by rfl)]
        go_simp
        go_at_call 169
        refine R8.out.mono ?_
        rintro e w2 ⟨rfl, hb2⟩
        have hB2 : Below w.heap.size w w2 := below_drew_of hb2
        clear hb2
        refine hK.out _ _ ?_ (fun hHeld => ?_)
        · exact hB2
        clear hK K
        try simp only [Act.put, List.getElem_toArray, List.getElem_cons_succ, List.getElem_cons_zero, List.setIfInBounds_toArray, List.set_cons_zero, List.set_cons_succ]
        refine wpAnyH_ready (rs := [5]) (by kernel_rfl) (by simp) ?_
        refine AllReadyH.cons rfl (fun K hK => ?_) AllReadyH.nil
        rw [if_pos (by rfl)]
        go_simp
        go_at_call 131
        refine (OF.out _ hB2).mono ?_
        rintro e w3 ⟨rfl, hb3⟩
        have hB3 := hB2.trans (hb3.mono hB2.size)
        clear hb3
        refine hK.out _ _ ?_ (fun hHeld => ?_)
        · exact hB3
        clear hK K
        try simp only [Act.put, List.getElem_toArray, List.getElem_cons_succ, List.getElem_cons_zero, List.setIfInBounds_toArray, List.set_cons_zero, List.set_cons_succ]
        refine wpAnyH_take (i := 6) (v := ?_) rfl (by kernel_rfl) (by kernel_rfl) (by kernel_rfl) (fun _ _ _ h => h) (Or.inl ⟨by rfl, ?_⟩) (by assumption) ?_
        rotate_left
        · intro w hSw
          (try dsimp only at hSw)
          go_simp
          all_goals with_reducible rfl
        try simp only [Act.put, List.getElem_toArray, List.getElem_cons_succ, List.getElem_cons_zero, List.setIfInBounds_toArray, List.set_cons_zero, List.set_cons_succ]
        refine wpAnyH_done (by kernel_rfl) ?_ _
        clear hB2 hHeld OF R8 R4
        go_wp2
        go_ret2
        exact ⟨rfl, hB3⟩
    · have hr : rh bs = (0, 12) := by unfold rh; rw [if_neg (by omega), if_pos hm]
      rw [hr]
      have hne : strOf (bs.take 4) ≠ ⟨#[71, 79, 86, 49]⟩ := by
        rw [← hmg]
        exact fun h => hm (strOf_inj s4.byte (by decide) h)
      generalize strOf (bs.take 4) = z at cv hne
      have hq : (z.toList == [71, 79, 86, 49]) = false := by
        have h := ne_toList hne
        rw [show (⟨#[71, 79, 86, 49]⟩ : ByteArray).toList = [71, 79, 86, 49] from by rw [ByteArray.toList_eq]] at h
        exact h
      clear hmg hm s4 hr hne
      go_enter Tryz.func109, Tryz.ntmps109
      go_wp2
      go_ret2
      exact ⟨rfl, Below.refl _ _⟩

theorem rh_ok (bs : List Nat) (h : (rh bs).2 = 0) : (rh bs).1 ≤ 1073741824 ∧ 12 ≤ bs.length := by
  unfold rh at *
  split at h
  · simp at h
  split at h
  · simp at h
  split at h
  · simp at h
  split at h
  · simp at h
  · rename_i h1 h2 h3 h4
    rw [if_neg h1, if_neg h2, if_neg h3, if_neg h4]
    exact ⟨by simp only; omega, by omega⟩

set_option maxRecDepth 100000 in
set_option maxHeartbeats 1600000 in
theorem segRead_anyB (a : Option Addr) (len cap : Nat) (bs : List Nat) (w : World) (hs : Sl w w.heap.size a len cap bs) (hlen : len ≤ 1100000) :
    Calls Tryz.prog 60 #[.slice a len cap] w fun e w' => ∃ v ts, e = .returned (.tuple #[.int .i64 (((rd bs).1 : Nat) : Int), v, .int .i64 (((rd bs).2.2.1 : Nat) : Int), .int .i64 (((rd bs).2.2.2 : Nat) : Int)]) ∧ OwnF w' w.heap.size v ts ∧ ts.map (·.1) = (rd bs).2.1 ∧ Below w.heap.size w w' ∧ BB w.heap.size ts := by
  have hbl := hs.length
  have RH := Lib.hid (readHead_any a len cap bs w hs)
  have Hrd : Hid (rd bs = if (rh bs).2 ≠ 0 then (0, [], 0, (rh bs).2) else ((rh bs).1, (scan (bs.drop 12) ((rh bs).1 : Int)).1, 12 + (scan (bs.drop 12) ((rh bs).1 : Int)).2, 0)) := rfl
  have hok := rh_ok bs
  generalize rd bs = r at Hrd ⊢
  obtain ⟨⟨f, er⟩, hx⟩ : ∃ x, x = rh bs := ⟨_, rfl⟩
  rw [← hx] at hok RH Hrd
  clear hx
  simp only at hok RH Hrd
  by_cases h0 : er = 0
  · subst h0
    obtain ⟨hf, h12⟩ := hok rfl
    have hr := Hrd.out
    rw [if_neg (by simp)] at hr
    rw [hr]
    clear hr Hrd hok
    have h12' : (12 : Int) ≤ (len : Int) := by omega
    have f12 := hs.from_ (k := 12) (by omega)
    have d12 : ∀ w, (Instr.slice 38 (.slice a len cap) (some (.int .i64 12)) none none).run Tryz.prog w = .ok (.slice (fromA a cap 12) (len - 12) (cap - 12)) w := run_cut_from (P := Tryz.prog) 38 5 Tryz.underlying38 info_u8 a len cap 12 (by omega)
    generalize fromA a cap 12 = a2 at f12 d12
    generalize cap - 12 = k2 at f12 d12
    generalize hl2 : len - 12 = l2 at f12 d12
    have hsl : (scan (bs.drop 12) (f : Int)).2 ≤ 1100000 := by
      have := scan_le (bs.length + 1) (bs.drop 12) (f : Int) (by rw [List.length_drop]; omega)
      rw [List.length_drop] at this
      omega
    have SC := Lib.hid (fun (w' : World) (hb : Below w.heap.size w w') => scan_anyB a2 l2 k2 (bs.drop 12) (f : Int) w' ((f12.below hb (Nat.le_refl _)).more hb.size) (by omega) (by omega) (by omega))
    generalize scan (bs.drop 12) (f : Int) = sc at SC hsl
    obtain ⟨fs, n⟩ := sc
    simp only at SC hsl ⊢
    clear f12 hl2 hs
    go_enter Tryz.func60, Tryz.ntmps60
    go_wp2_with fail
    refine RH.out.mono ?_
    rintro e w1 ⟨rfl, hb1⟩
    go_wp2_with fail
    refine (SC.out _ hb1).mono ?_
    rintro e w2 ⟨v, ts, rfl, ho, hts, hb2, hbb⟩
    have H := Lib.hid (And.intro (ho.mono hb1.size) (And.intro hts (And.intro (hb1.trans (hb2.mono hb1.size)) (fun t ht b o e => Nat.le_trans hb1.size (hbb t ht b o e) : BB w.heap.size ts))))
    clear ho hts hb2 hb1 hbb SC RH
    have hwn : IntKind.i64.wrap (12 + (n : Int)) = 12 + (n : Int) := by rw [IntKind.wrap_i64]; omega
    go_wp2
    refine bodyPost_ret (v := .tuple #[.int .i64 (f : Int), v, .int .i64 (12 + (n : Int)), .int .i64 0]) (by simp [results, Tryz.results60, go_sem]) (by rfl) ?_
    exact ⟨v, ts, rfl, H.out.1, H.out.2.1, H.out.2.2⟩
  · have hr := Hrd.out
    rw [if_pos h0] at hr
    rw [hr]
    clear hr Hrd hok
    have r1 : ((er : Int) != 0) = true := by simp; omega
    go_enter Tryz.func60, Tryz.ntmps60
    go_wp2_with fail
    refine RH.out.mono ?_
    rintro e w1 ⟨rfl, hb1⟩
    have H := Lib.hid hb1
    clear hb1 RH
    go_wp2
    refine bodyPost_ret (v := .tuple #[.int .i64 0, .slice none 0 0, .int .i64 0, .int .i64 (er : Int)]) (by simp [results, Tryz.results60, go_sem]) (by rfl) ?_
    exact ⟨_, [], rfl, OwnF.nil_ _ _, rfl, H.out, fun t ht => by cases ht⟩
theorem segRead_any (a : Option Addr) (len cap : Nat) (bs : List Nat) (w : World) (hs : Sl w w.heap.size a len cap bs) (hlen : len ≤ 100000) :
    Calls Tryz.prog 60 #[.slice a len cap] w fun e w' => ∃ v ts, e = .returned (.tuple #[.int .i64 (((rd bs).1 : Nat) : Int), v, .int .i64 (((rd bs).2.2.1 : Nat) : Int), .int .i64 (((rd bs).2.2.2 : Nat) : Int)]) ∧ OwnF w' w.heap.size v ts ∧ ts.map (·.1) = (rd bs).2.1 ∧ Below w.heap.size w w' :=
  (segRead_anyB a len cap bs w hs (by omega)).mono fun e w' ⟨v, ts, h1, h2, h3, h4, _⟩ => ⟨v, ts, h1, h2, h3, h4⟩
/-- Read, of bytes whose answer is known. -/
theorem segRead_of {bs : List Nat} {f : Nat} {fs : List Fr} {n er : Nat} (hr : rd bs = (f, fs, n, er)) (a : Option Addr) (len cap : Nat) (w : World) (hs : Sl w w.heap.size a len cap bs) (hlen : len ≤ 100000) :
    Calls Tryz.prog 60 #[.slice a len cap] w fun e w' => ∃ va vc, e = .returned (.tuple #[.int .i64 (f : Int), .slice va fs.length vc, .int .i64 (n : Int), .int .i64 (er : Int)]) ∧ Frs w' w'.heap.size va fs.length vc fs ∧ Below w.heap.size w w' := by
  refine (segRead_any a len cap bs w hs hlen).mono ?_
  rintro e w' ⟨v, ts, rfl, ho, hts, hb⟩
  rw [hr] at hts ⊢
  simp only at hts
  obtain ⟨va, vc, hv, hfr⟩ := ho.frs
  have hl : ts.length = fs.length := by rw [← hts, List.length_map]
  rw [hts] at hfr
  rw [hl] at hv hfr
  exact ⟨va, vc, by rw [hv], hfr, hb⟩
end
section
set_option linter.unusedSimpArgs false
set_option linter.unusedVariables false
open Go.RowKit Go.Sort Go.Maps
open Crc Frm
open Sgn
attribute [local go_sem] Oper.semAt_some

/-- The cells of a log. -/
structure LogC (w : World) (lp dp size : Nat) (g : Lg) (sa : Option Addr) (sc : Nat) : Prop where
  blk : w.heap[lp]? = some (.cells #[.pointer (some ⟨dp, 0, none⟩), .int .i64 (size : Int), .slice sa g.segs.length sc, .int .i64 g.next] 83 (0, 0))
  row : Row w w.heap.size sa g.segs.length sc 1 (intsC g.segs)
  nil_ : sa = none → g.segs.length = 0 ∧ sc = 0
section
variable {w w' : World} {lp dp size : Nat} {g : Lg} {sa : Option Addr} {sc : Nat}
theorem LogC.c0 (h : LogC w lp dp size g sa sc) : w.cell? ⟨lp, 0, none⟩ = some (.pointer (some ⟨dp, 0, none⟩)) := (cell_of_row w lp 0 _ _ _ h.blk).trans rfl
theorem LogC.c1 (h : LogC w lp dp size g sa sc) : w.cell? ⟨lp, 1, none⟩ = some (.int .i64 (size : Int)) := (cell_of_row w lp 1 _ _ _ h.blk).trans rfl
theorem LogC.c2 (h : LogC w lp dp size g sa sc) : w.cell? ⟨lp, 2, none⟩ = some (.slice sa g.segs.length sc) := (cell_of_row w lp 2 _ _ _ h.blk).trans rfl
theorem LogC.c3 (h : LogC w lp dp size g sa sc) : w.cell? ⟨lp, 3, none⟩ = some (.int .i64 g.next) := (cell_of_row w lp 3 _ _ _ h.blk).trans rfl
theorem LogC.z (h : LogC w lp dp size g sa sc) (o : Nat) : w.frozen? ⟨lp, o, none⟩ = false := frozen_of_row w lp o _ _ h.blk
theorem LogC.lt (h : LogC w lp dp size g sa sc) : lp < w.heap.size := lt_of_heap h.blk
theorem LogC.on (h : LogC w lp dp size g sa sc) (hb : Below w.heap.size w w') : LogC w' lp dp size g sa sc := ⟨(hb.block lp h.lt).trans h.blk, (h.row.below hb (Nat.le_refl _)).more hb.size, h.nil_⟩
theorem LogC.but {O : Nat → Prop} (h : LogC w lp dp size g sa sc) (hb : But O w w') (hl : ¬ O lp) (hs : ∀ k o, sa = some ⟨k, o, none⟩ → ¬ O k) : LogC w' lp dp size g sa sc :=
  ⟨(hb.block lp h.lt hl).trans h.blk, h.row.but hb (fun _ => hs), h.nil_⟩
end
theorem getLastD_getD (l : List Int) : l.getLastD 0 = l.getD (l.length - 1) 0 := by
  rw [List.getLastD_eq_getLast?, List.getLast?_eq_getElem?, List.getD_eq_getElem?_getD]

/-- What the log holds: its disk's blocks, its own, its row's. -/
def lO (D : Nat → Prop) (lp : Nat) (sa : Option Addr) (k : Nat) : Prop := D k ∨ k = lp ∨ ∃ o, sa = some ⟨k, o, none⟩
/-- A log that lies behind all that was there in w0. -/
structure LK (w0 w : World) (dp lp size : Nat) (g : Lg) (t : St) (D : Nat → Prop) (sa : Option Addr) (sc : Nat) : Prop where
  dk : DK w0 w dp t D
  at_ : LogC w lp dp size g sa sc
  base : w0.heap.size ≤ lp
  own : ¬ D lp
  far : ∀ k o, sa = some ⟨k, o, none⟩ → ¬ D k ∧ k ≠ lp ∧ w0.heap.size ≤ k ∧ k < w.heap.size
def LMv (w0 w : World) (dp lp size : Nat) (O : Nat → Prop) (g : Lg) (t : St) (w' : World) : Prop :=
  ∃ D' sa' sc', LK w0 w' dp lp size g t D' sa' sc' ∧ But O w w' ∧ ∀ k, lO D' lp sa' k → O k ∨ w.heap.size ≤ k
section
variable {w0 w w' : World} {dp lp size : Nat} {g : Lg} {t t' : St} {D : Nat → Prop} {sa : Option Addr} {sc : Nat}
theorem LK.on (h : LK w0 w dp lp size g t D sa sc) (hb : Below w.heap.size w w') : LK w0 w' dp lp size g t D sa sc :=
  ⟨h.dk.on hb, h.at_.on hb, h.base, h.own, fun k o e => by obtain ⟨h1, h2, h3, h4⟩ := h.far k o e; exact ⟨h1, h2, h3, Nat.lt_of_lt_of_le h4 hb.size⟩⟩
theorem LK.lt (h : LK w0 w dp lp size g t D sa sc) : ∀ k, lO D lp sa k → k < w.heap.size := fun k hk => by
  rcases hk with h1 | rfl | ⟨o, h1⟩
  · exact h.dk.lt k h1
  · exact h.at_.lt
  · exact (h.far k o h1).2.2.2
theorem LK.ge (h : LK w0 w dp lp size g t D sa sc) : ∀ k, lO D lp sa k → w0.heap.size ≤ k := fun k hk => by
  rcases hk with h1 | rfl | ⟨o, h1⟩
  · exact h.dk.base k h1
  · exact h.base
  · exact (h.far k o h1).2.2.1
theorem LK.laid (h : LK w0 w dp lp size g t D sa sc) (hL : Laid w0) : Laid w := hL.on h.dk.below
/-- What a call of its disk leaves of the log. -/
theorem LK.but (h : LK w0 w dp lp size g t D sa sc) {D' : Nat → Prop} (hd : DK w0 w' dp t' D') (hb : But D w w') (hD : ∀ k, D' k → D k ∨ w.heap.size ≤ k) : LK w0 w' dp lp size g t' D' sa sc :=
  ⟨hd, h.at_.but hb h.own (fun k o e => (h.far k o e).1), h.base, fun ho => by rcases hD lp ho with h1 | h1; exact h.own h1; have := h.at_.lt; omega,
    fun k o e => by
      obtain ⟨h1, h2, h3, h4⟩ := h.far k o e
      exact ⟨fun ho => by rcases hD k ho with h5 | h5; exact h1 h5; omega, h2, h3, Nat.lt_of_lt_of_le h4 hb.size⟩⟩
theorem LK.mv (h : LK w0 w dp lp size g t D sa sc) (hm : Mv w0 w dp D t' w') : LMv w0 w dp lp size (lO D lp sa) g t' w' := by
  obtain ⟨D', h1, h2, h3⟩ := hm
  exact ⟨D', sa, sc, h.but h1 h2 h3, h2.more (fun k hk => .inl hk), fun k hk => by
    rcases hk with h4 | h4
    · rcases h3 k h4 with h5 | h5
      · exact .inl (.inl h5)
      · exact .inr h5
    · exact .inl (.inr h4)⟩
theorem LK.still (h : LK w0 w dp lp size g t D sa sc) (hb : Below w.heap.size w w') : LMv w0 w dp lp size (lO D lp sa) g t w' :=
  ⟨D, sa, sc, h.on hb, But.of_below hb, fun _ hk => .inl hk⟩
/-- Behind another step. -/
theorem LMv.then {w1 : World} {O O1 : Nat → Prop} (hb : But O w w1) (hO : ∀ k, O1 k → O k ∨ w.heap.size ≤ k) (h : LMv w0 w1 dp lp size O1 g t w') : LMv w0 w dp lp size O g t w' := by
  obtain ⟨D', sa', sc', h1, h2, h3⟩ := h
  exact ⟨D', sa', sc', h1, hb.trans h2 hO, fun k hk => by rcases h3 k hk with h4 | h4; exact hO k h4; exact .inr (Nat.le_trans hb.size h4)⟩
theorem LMv.on {w2 : World} {O : Nat → Prop} (h : LMv w0 w dp lp size O g t w') (hb : Below w'.heap.size w' w2) : LMv w0 w dp lp size O g t w2 := by
  obtain ⟨D', sa', sc', h1, h2, h3⟩ := h
  exact ⟨D', sa', sc', h1.on hb, h2.trans (But.of_below (O := fun _ => False) hb) (fun _ hf => hf.elim), h3⟩
end
/-- Names are short. -/
theorem nm_short (n : Int) : (nm n).length ≤ 11 := by
  unfold nm
  split
  · rename_i h
    have := itoa_len h.1 h.2
    simp [Lib.repeatL_length]
    omega
  · simp
theorem nmS_size (n : Int) : ByteArray.size ⟨(nm n).toArray⟩ ≤ 11 := nm_short n

set_option maxRecDepth 100000 in
set_option maxHeartbeats 3200000 in
/-- The last one's name. -/
theorem last_any {w : World} {lp dp size : Nat} {g : Lg} {sa : Option Addr} {sc : Nat} (h : LogC w lp dp size g sa sc) (hne : g.segs ≠ []) (hL : Laid w) :
    Calls Tryz.prog 80 #[.pointer (some ⟨lp, 0, none⟩)] w fun e w' => e = .returned (.string ⟨(lgLast g).toArray⟩) ∧ Below w.heap.size w w' := by
  have hlen : 0 < g.segs.length := List.length_pos_iff.2 hne
  obtain ⟨b, o, rfl, hb, hc⟩ := h.row.at_ hlen
  have hmx := h.row.le
  have hmx2 := h.row.max
  unfold maxLen at hmx2
  have c2 := h.c2
  obtain ⟨n, hn⟩ : ∃ n, n = g.segs.length := ⟨_, rfl⟩
  obtain ⟨m, hm⟩ : ∃ m, m = n - 1 := ⟨_, rfl⟩
  have hv : g.segs.getD m 0 = g.segs.getLastD 0 := by rw [getLastD_getD, hm, hn]
  have cm : w.cell? ⟨b, o + m, none⟩ = some (.int .i64 (g.segs.getLastD 0)) := (hc m (by omega)).trans (by show some (Value.int .i64 (g.segs.getD m 0)) = _; rw [hv])
  rw [← hn] at c2 hlen hmx
  have h0 : (0 : Int) ≤ (m : Int) := by omega
  have h1 : (m : Int) < (n : Int) := by omega
  have hw : IntKind.i64.wrap ((n : Int) - 1) = (m : Int) := by rw [IntKind.wrap_i64]; omega
  have HN := Lib.hid (fun x (hb : Below w.heap.size w x) => name_any (g.segs.getLastD 0) x (hL.on hb))
  have hlg : Hid (lgLast g = nm (g.segs.getLastD 0)) := rfl
  generalize g.segs.getLastD 0 = v at *
  clear hc hv hn hm h hL hne hb hmx hmx2
  go_enter Tryz.func80, Tryz.ntmps80
  go_wp2_with fail
  refine wp_region_held_drew (S := fun x => x.cell? ⟨lp, 2, none⟩ = some (.slice (some ⟨b, o, none⟩) n sc) ∧ x.cell? ⟨b, o + m, none⟩ = some (.int .i64 v) ∧ Below w.heap.size w x) (by kernel_rfl) ⟨c2, cm, Below.drew (Below.refl _ _)⟩ (fun hHeld => ?_)
  refine wpAnyH_take (i := 0) (v := ?_) rfl (by kernel_rfl) (by kernel_rfl) (by kernel_rfl) (fun _ _ _ h => h) (Or.inl ⟨by rfl, ?_⟩) (by assumption) ?_
  rotate_left
  · intro w hSw
    (try dsimp only at hSw)
    go_simp
    all_goals with_reducible rfl
  try simp only [Act.put, List.getElem_toArray, List.getElem_cons_succ, List.getElem_cons_zero, List.setIfInBounds_toArray, List.set_cons_zero, List.set_cons_succ]
  refine wpAnyH_take (i := 1) (v := ?_) rfl (by kernel_rfl) (by kernel_rfl) (by kernel_rfl) (fun _ _ _ h => h) (Or.inl ⟨by rfl, ?_⟩) (by assumption) ?_
  rotate_left
  · intro w hSw
    (try dsimp only at hSw)
    go_simp
    all_goals with_reducible rfl
  try simp only [Act.put, List.getElem_toArray, List.getElem_cons_succ, List.getElem_cons_zero, List.setIfInBounds_toArray, List.set_cons_zero, List.set_cons_succ]
  refine wpAnyH_take (i := 2) (v := ?_) rfl (by kernel_rfl) (by kernel_rfl) (by kernel_rfl) (fun _ _ _ h => h) (Or.inl ⟨by rfl, ?_⟩) (by assumption) ?_
  rotate_left
  · intro w hSw
    (try dsimp only at hSw)
    go_simp
    all_goals with_reducible rfl
  try simp only [Act.put, List.getElem_toArray, List.getElem_cons_succ, List.getElem_cons_zero, List.setIfInBounds_toArray, List.set_cons_zero, List.set_cons_succ]
  refine wpAnyH_take (i := 3) (v := ?_) rfl (by kernel_rfl) (by kernel_rfl) (by kernel_rfl) (fun _ _ _ h => h) (Or.inl ⟨by rfl, ?_⟩) (by assumption) ?_
  rotate_left
  · intro w hSw
    (try dsimp only at hSw)
    go_simp
    all_goals with_reducible rfl
  try simp only [Act.put, List.getElem_toArray, List.getElem_cons_succ, List.getElem_cons_zero, List.setIfInBounds_toArray, List.set_cons_zero, List.set_cons_succ]
  refine wpAnyH_take (i := 4) (v := ?_) rfl (by kernel_rfl) (by kernel_rfl) (by kernel_rfl) (fun _ _ _ h => h) (Or.inl ⟨by rfl, ?_⟩) (by assumption) ?_
  rotate_left
  · intro w hSw
    (try dsimp only at hSw)
    go_simp
    all_goals with_reducible rfl
  try simp only [Act.put, List.getElem_toArray, List.getElem_cons_succ, List.getElem_cons_zero, List.setIfInBounds_toArray, List.set_cons_zero, List.set_cons_succ]
  refine wpAnyH_take (i := 5) (v := ?_) rfl (by kernel_rfl) (by kernel_rfl) (by kernel_rfl) (fun _ _ _ h => h) (Or.inl ⟨by rfl, ?_⟩) (by assumption) ?_
  rotate_left
  · intro w hSw
    (try dsimp only at hSw)
    go_simp
    all_goals with_reducible rfl
  try simp only [Act.put, List.getElem_toArray, List.getElem_cons_succ, List.getElem_cons_zero, List.setIfInBounds_toArray, List.set_cons_zero, List.set_cons_succ]
  refine wpAnyH_take (i := 6) (v := ?_) rfl (by kernel_rfl) (by kernel_rfl) (by kernel_rfl) (fun _ _ _ h => h) (Or.inl ⟨by rfl, ?_⟩) (by assumption) ?_
  rotate_left
  · intro w hSw
    (try dsimp only at hSw)
    go_simp
    all_goals with_reducible rfl
  try simp only [Act.put, List.getElem_toArray, List.getElem_cons_succ, List.getElem_cons_zero, List.setIfInBounds_toArray, List.set_cons_zero, List.set_cons_succ]
  refine wpAnyH_take (i := 7) (v := ?_) rfl (by kernel_rfl) (by kernel_rfl) (by kernel_rfl) (fun _ _ _ h => h) (Or.inl ⟨by rfl, ?_⟩) (by assumption) ?_
  rotate_left
  · intro w hSw
    (try dsimp only at hSw)
    go_simp
    all_goals with_reducible rfl
  try simp only [Act.put, List.getElem_toArray, List.getElem_cons_succ, List.getElem_cons_zero, List.setIfInBounds_toArray, List.set_cons_zero, List.set_cons_succ]
  refine wpAnyH_take (i := 8) (v := ?_) rfl (by kernel_rfl) (by kernel_rfl) (by kernel_rfl) (fun _ _ _ h => h) (Or.inl ⟨by rfl, ?_⟩) (by assumption) ?_
  rotate_left
  · intro w hSw
    (try dsimp only at hSw)
    go_simp
    all_goals with_reducible rfl
  try simp only [Act.put, List.getElem_toArray, List.getElem_cons_succ, List.getElem_cons_zero, List.setIfInBounds_toArray, List.set_cons_zero, List.set_cons_succ]
  refine wpAnyH_take (i := 9) (v := ?_) rfl (by kernel_rfl) (by kernel_rfl) (by kernel_rfl) (fun _ _ _ h => h) (Or.inl ⟨by rfl, ?_⟩) (by assumption) ?_
  rotate_left
  · intro w hSw
    (try dsimp only at hSw)
    go_simp
    all_goals with_reducible rfl
  try simp only [Act.put, List.getElem_toArray, List.getElem_cons_succ, List.getElem_cons_zero, List.setIfInBounds_toArray, List.set_cons_zero, List.set_cons_succ]
  refine wpAnyH_take (i := 10) (v := ?_) rfl (by kernel_rfl) (by kernel_rfl) (by kernel_rfl) (fun _ _ _ h => h) (Or.inl ⟨by rfl, ?_⟩) (by assumption) ?_
  rotate_left
  · intro w hSw
    (try dsimp only at hSw)
    go_simp
    all_goals with_reducible rfl
  try simp only [Act.put, List.getElem_toArray, List.getElem_cons_succ, List.getElem_cons_zero, List.setIfInBounds_toArray, List.set_cons_zero, List.set_cons_succ]
  refine wpAnyH_take (i := 11) (v := ?_) rfl (by kernel_rfl) (by kernel_rfl) (by kernel_rfl) (fun _ _ _ h => h) (Or.inl ⟨by rfl, ?_⟩) (by assumption) ?_
  rotate_left
  · intro w hSw
    (try dsimp only at hSw)
    go_simp
    all_goals with_reducible rfl
  try simp only [Act.put, List.getElem_toArray, List.getElem_cons_succ, List.getElem_cons_zero, List.setIfInBounds_toArray, List.set_cons_zero, List.set_cons_succ]
  refine wpAnyH_ready (rs := [12]) (by kernel_rfl) (by simp) ?_
  refine AllReadyH.cons rfl (fun K hK => ?_) AllReadyH.nil
  rw [if_pos (by rfl)]
  go_simp
  go_at_call 59
  refine (HN.out _ (Below.drew (Below.refl _ _))).mono ?_
  rintro e w2 ⟨rfl, hb2⟩
  have B2 : Below w.heap.size w w2 := below_drew_of hb2
  clear hb2
  refine hK.out _ _ ?_ (fun hHeld => ?_)
  · exact ⟨(B2.cell (p := ⟨lp, 2, none⟩) (block_lt_of_cell c2)).trans c2, (B2.cell (p := ⟨b, o + m, none⟩) (block_lt_of_cell cm)).trans cm, B2⟩
  clear hK K
  try simp only [Act.put, List.getElem_toArray, List.getElem_cons_succ, List.getElem_cons_zero, List.setIfInBounds_toArray, List.set_cons_zero, List.set_cons_succ]
  refine wpAnyH_take (i := 13) (v := ?_) rfl (by kernel_rfl) (by kernel_rfl) (by kernel_rfl) (fun _ _ _ h => h) (Or.inl ⟨by rfl, ?_⟩) (by assumption) ?_
  rotate_left
  · intro w hSw
    (try dsimp only at hSw)
    go_simp
    all_goals with_reducible rfl
  try simp only [Act.put, List.getElem_toArray, List.getElem_cons_succ, List.getElem_cons_zero, List.setIfInBounds_toArray, List.set_cons_zero, List.set_cons_succ]
  refine wpAnyH_done (by kernel_rfl) ?_ _
  go_wp2
  go_ret
  exact ⟨by rw [hlg.out]; rfl, B2⟩
end
section
set_option linter.unusedSimpArgs false
set_option linter.unusedVariables false
open Go.RowKit Go.Sort Go.Maps
open Crc Frm
open Sgn
attribute [local go_sem] Oper.semAt_some

set_option maxRecDepth 100000 in
set_option maxHeartbeats 1600000 in
/-- Steps in turn: what each needs and leaves, and what is told at the first error. -/
theorem lturn_any (n : Nat) (fs : Nat → FuncId) (ps cs : Nat → Array Value) (g : Nat) (w : World) (J : Nat → World → Prop) (R : Int → World → Prop) (hn : n ≤ 1000)
    (hcell : ∀ k w', k < n → J k w' → w'.cell? ⟨g, k, none⟩ = some (.func (.func (fs k)) (ps k) (cs k)))
    (hc : ∀ k x, k < n → (callFunc (fs k) (ps k ++ cs k)).run Tryz.prog x = .ok (.enter (fs k) (ps k ++ cs k)) x)
    (hcall : ∀ k w', k < n → J k w' → Calls Tryz.prog (fs k) (ps k ++ cs k) w' fun e w'' => ∃ x, e = .returned (.int .i64 x) ∧ (x = 0 → J (k + 1) w'') ∧ (x ≠ 0 → R x w''))
    (hend : ∀ w', J n w' → R 0 w') (h0 : J 0 w) :
    Calls Tryz.prog 36 #[.slice (some ⟨g, 0, none⟩) n n] w fun e w' => ∃ x, e = .returned (.int .i64 x) ∧ R x w' := by
  have HC := Lib.hid hcell
  have HL := Lib.hid hcall
  have HE := Lib.hid hend
  have HF := Lib.hid hc
  have H0 := Lib.hid h0
  clear hcell hc hcall hend h0
  go_enter Tryz.func36, Tryz.ntmps36
  go_wp2_with fail
  go_loopw [4, 5, 8] (fun _ _ i wr => ∃ k : Nat, k ≤ n ∧ i = .int .i64 (k : Int) ∧ J k wr) (fun _ _ i _ => n - (intOf i).toNat)
  case atStart => exact ⟨0, Nat.zero_le _, rfl, H0.out⟩
  case round =>
    obtain ⟨k, hk, rfl, hj⟩ := hrel
    by_cases hlt : k < n
    · have c0 := HC.out k wr hlt hj
      have cf := fun x => HF.out k x hlt
      have CL := Lib.hid (HL.out k wr hlt hj)
      have c1 : wr.cell? ⟨g, 0 + k, none⟩ = some (.func (.func (fs k)) (ps k) (cs k)) := by rw [Nat.zero_add]; exact c0
      clear hj
      generalize fs k = fk at *
      generalize ps k = pk at *
      generalize cs k = ck at *
      go_wp2_with fail
      refine CL.out.mono ?_
      rintro e w1 ⟨x, rfl, hx0, hx1⟩
      have X0 := Lib.hid hx0
      have X1 := Lib.hid hx1
      clear hx0 hx1 CL c0 c1 cf
      by_cases hx : x = 0
      · subst hx
        go_wp2
        go_roundw
        case rel => exact ⟨k + 1, by omega, by go_num, X0.out (by trivial)⟩
        case measure => simp [intOf]; omega
      · go_wp2
        go_ret
        exact ⟨x, rfl, X1.out hx⟩
    · have hkn : k = n := by omega
      subst hkn
      have HJ := Lib.hid hj
      clear hj
      go_wp2
      go_ret
      exact ⟨0, rfl, HE.out _ HJ.out⟩

theorem below_drews {B : Nat} {a w : World} {n : Nat} (h : Below B a w) : Below B a (w.drewN n) := ⟨h.os, h.tape, h.output, h.size, h.block⟩
/-- A file's bytes are no more than the room. -/
theorem bytes_le {t : St} (h : Good t.D t.room) (s : List UInt8) : (t.bytes s).length ≤ 1048576 := by
  unfold St.bytes
  cases hf : fat t.D s with
  | none => simp [Fl.zero]
  | some f => have := (h.at_ hf).2.2.2; have := h.tot_; have := h.room_; simp; omega
section
variable {w0 w : World} {dp lp size : Nat} {g : Lg} {t : St} {D : Nat → Prop} {sa : Option Addr} {sc : Nat}
set_option maxRecDepth 100000 in
set_option maxHeartbeats 3200000 in
/-- Sync. -/
theorem lsync_any (h : LK w0 w dp lp size g t D sa sc) (hne : g.segs ≠ []) (hL : Laid w0) :
    Calls Tryz.prog 35 #[.pointer (some ⟨lp, 0, none⟩)] w fun e w' => e = .returned (.int .i64 (lgSync g t).1) ∧ LMv w0 w dp lp size (lO D lp sa) g (lgSync g t).2 w' := by
  have c0 := h.at_.c0
  have hlt := h.at_.lt
  have hown := h.own
  have LA := Lib.hid (fun x (hb : Below w.heap.size w x) => last_any (h.at_.on hb) hne ((h.laid hL).on hb))
  have H := Lib.hid h
  have hsy : Hid (lgSync g t = t.sync (lgLast g)) := rfl
  have hsz := nmS_size (g.segs.getLastD 0)
  change ByteArray.size ⟨(lgLast g).toArray⟩ ≤ 11 at hsz
  clear h hL hne
  go_enter Tryz.func35, Tryz.ntmps35
  go_wp2_with fail
  refine wp_region_held_drew (S := fun x => x.cell? ⟨lp, 0, none⟩ = some (.pointer (some ⟨dp, 0, none⟩))) (by kernel_rfl) c0 (fun hHeld => ?_)
  refine wpAnyH_take (i := 0) (v := ?_) rfl (by kernel_rfl) (by kernel_rfl) (by kernel_rfl) (fun _ _ _ h => h) (Or.inl ⟨by rfl, ?_⟩) (by assumption) ?_
  rotate_left
  · intro w hSw
    (try dsimp only at hSw)
    go_simp
    all_goals with_reducible rfl
  try simp only [Act.put, List.getElem_toArray, List.getElem_cons_succ, List.getElem_cons_zero, List.setIfInBounds_toArray, List.set_cons_zero, List.set_cons_succ]
  refine wpAnyH_take (i := 1) (v := ?_) rfl (by kernel_rfl) (by kernel_rfl) (by kernel_rfl) (fun _ _ _ h => h) (Or.inl ⟨by rfl, ?_⟩) (by assumption) ?_
  rotate_left
  · intro w hSw
    (try dsimp only at hSw)
    go_simp
    all_goals with_reducible rfl
  try simp only [Act.put, List.getElem_toArray, List.getElem_cons_succ, List.getElem_cons_zero, List.setIfInBounds_toArray, List.set_cons_zero, List.set_cons_succ]
  refine wpAnyH_take (i := 2) (v := ?_) rfl (by kernel_rfl) (by kernel_rfl) (by kernel_rfl) (fun _ _ _ h => h) (Or.inl ⟨by rfl, ?_⟩) (by assumption) ?_
  rotate_left
  · intro w hSw
    (try dsimp only at hSw)
    go_simp
    all_goals with_reducible rfl
  try simp only [Act.put, List.getElem_toArray, List.getElem_cons_succ, List.getElem_cons_zero, List.setIfInBounds_toArray, List.set_cons_zero, List.set_cons_succ]
  refine wpAnyH_take (i := 3) (v := ?_) rfl (by kernel_rfl) (by kernel_rfl) (by kernel_rfl) (fun _ _ _ h => h) (Or.inl ⟨by rfl, ?_⟩) (by assumption) ?_
  rotate_left
  · intro w hSw
    (try dsimp only at hSw)
    go_simp
    all_goals with_reducible rfl
  try simp only [Act.put, List.getElem_toArray, List.getElem_cons_succ, List.getElem_cons_zero, List.setIfInBounds_toArray, List.set_cons_zero, List.set_cons_succ]
  refine wpAnyH_take (i := 4) (v := ?_) rfl (by kernel_rfl) (by kernel_rfl) (by kernel_rfl) (fun _ _ _ h => h) (Or.inl ⟨by rfl, ?_⟩) (by assumption) ?_
  rotate_left
  · intro w hSw
    (try dsimp only at hSw)
    go_simp
    all_goals with_reducible rfl
  try simp only [Act.put, List.getElem_toArray, List.getElem_cons_succ, List.getElem_cons_zero, List.setIfInBounds_toArray, List.set_cons_zero, List.set_cons_succ]
  refine wpAnyH_ready (rs := [5]) (by kernel_rfl) (by simp) ?_
  refine AllReadyH.cons rfl (fun K hK => ?_) AllReadyH.nil
  rw [if_pos (by rfl)]
  go_simp
  go_at_call 80
  refine (LA.out _ (Below.drew (Below.refl _ _))).mono ?_
  rintro e w2 ⟨rfl, hb2⟩
  have B2 : Below w.heap.size w w2 := below_drew_of hb2
  clear hb2
  have c02 := (B2.cell (p := ⟨lp, 0, none⟩) hlt).trans c0
  refine hK.out _ _ ?_ (fun hHeld => ?_)
  · exact c02
  clear hK K
  try simp only [Act.put, List.getElem_toArray, List.getElem_cons_succ, List.getElem_cons_zero, List.setIfInBounds_toArray, List.set_cons_zero, List.set_cons_succ]
  refine wpAnyH_ready (rs := [6]) (by kernel_rfl) (by simp) ?_
  refine AllReadyH.cons rfl (fun K hK => ?_) AllReadyH.nil
  rw [if_pos (by rfl)]
  go_simp
  go_at_call 64
  refine ((H.out.on B2).dk.sync ⟨(lgLast g).toArray⟩ (by omega)).mono ?_
  rintro e w3 ⟨rfl, hm⟩
  have hm2 := (H.out.on B2).mv hm
  obtain ⟨D3, k3, b3, d3⟩ := hm
  refine hK.out _ _ ?_ (fun hHeld => ?_)
  · exact (b3.cell (b := lp) (o := 0) (Nat.lt_of_lt_of_le hlt B2.size) hown).trans c02
  clear hK K
  try simp only [Act.put, List.getElem_toArray, List.getElem_cons_succ, List.getElem_cons_zero, List.setIfInBounds_toArray, List.set_cons_zero, List.set_cons_succ]
  refine wpAnyH_take (i := 7) (v := ?_) rfl (by kernel_rfl) (by kernel_rfl) (by kernel_rfl) (fun _ _ _ h => h) (Or.inl ⟨by rfl, ?_⟩) (by assumption) ?_
  rotate_left
  · intro w hSw
    (try dsimp only at hSw)
    go_simp
    all_goals with_reducible rfl
  try simp only [Act.put, List.getElem_toArray, List.getElem_cons_succ, List.getElem_cons_zero, List.setIfInBounds_toArray, List.set_cons_zero, List.set_cons_succ]
  refine wpAnyH_done (by kernel_rfl) ?_ _
  go_wp2
  go_ret
  exact ⟨by rw [hsy.out]; rfl, by rw [hsy.out]; exact LMv.then (But.of_below B2) (fun _ hk => .inl hk) hm2⟩

set_option linter.unusedSimpArgs false in
set_option maxRecDepth 100000 in
set_option maxHeartbeats 3200000 in
/-- Is the last one full? -/
theorem isFull_any (h : LK w0 w dp lp size g t D sa sc) (hne : g.segs ≠ []) (hL : Laid w0) (more : Nat) (hmore : more ≤ 1000000000) (hsize : size ≤ 1000000000) :
    Calls Tryz.prog 132 #[.pointer (some ⟨lp, 0, none⟩), .int .i64 (more : Int)] w fun e w' => e = .returned (.bool (lgFull size g t more)) ∧ Below w.heap.size w w' := by
  have c0 := h.at_.c0
  have hlt := h.at_.lt
  have hown := h.own
  have LA := Lib.hid (fun x (hb : Below w.heap.size w x) => last_any (h.at_.on hb) hne ((h.laid hL).on hb))
  have H := Lib.hid h
  have hfu : Hid (lgFull size g t more = (decide (g.segs.getLastD 0 < g.next) && decide (size < (t.bytes (lgLast g)).length + more))) := rfl
  have hsz := nmS_size (g.segs.getLastD 0)
  change ByteArray.size ⟨(lgLast g).toArray⟩ ≤ 11 at hsz
  have hlen : 0 < g.segs.length := List.length_pos_iff.2 hne
  have hby := Lib.hid (fat_byte h.dk.good (lgLast g))
  have hbl := bytes_le h.dk.good (lgLast g)
  clear h hL hne
  go_enter Tryz.func132, Tryz.ntmps132
  go_wp2_with fail
  refine wp_region_held_drew (S := fun x => x.cell? ⟨lp, 0, none⟩ = some (.pointer (some ⟨dp, 0, none⟩))) (by kernel_rfl) c0 (fun hHeld => ?_)
  refine wpAnyH_take (i := 0) (v := ?_) rfl (by kernel_rfl) (by kernel_rfl) (by kernel_rfl) (fun _ _ _ h => h) (Or.inl ⟨by rfl, ?_⟩) (by assumption) ?_
  rotate_left
  · intro w hSw
    (try dsimp only at hSw)
    go_simp
    all_goals with_reducible rfl
  try simp only [Act.put, List.getElem_toArray, List.getElem_cons_succ, List.getElem_cons_zero, List.setIfInBounds_toArray, List.set_cons_zero, List.set_cons_succ]
  refine wpAnyH_take (i := 1) (v := ?_) rfl (by kernel_rfl) (by kernel_rfl) (by kernel_rfl) (fun _ _ _ h => h) (Or.inl ⟨by rfl, ?_⟩) (by assumption) ?_
  rotate_left
  · intro w hSw
    (try dsimp only at hSw)
    go_simp
    all_goals with_reducible rfl
  try simp only [Act.put, List.getElem_toArray, List.getElem_cons_succ, List.getElem_cons_zero, List.setIfInBounds_toArray, List.set_cons_zero, List.set_cons_succ]
  refine wpAnyH_take (i := 2) (v := ?_) rfl (by kernel_rfl) (by kernel_rfl) (by kernel_rfl) (fun _ _ _ h => h) (Or.inl ⟨by rfl, ?_⟩) (by assumption) ?_
  rotate_left
  · intro w hSw
    (try dsimp only at hSw)
    go_simp
    all_goals with_reducible rfl
  try simp only [Act.put, List.getElem_toArray, List.getElem_cons_succ, List.getElem_cons_zero, List.setIfInBounds_toArray, List.set_cons_zero, List.set_cons_succ]
  refine wpAnyH_take (i := 3) (v := ?_) rfl (by kernel_rfl) (by kernel_rfl) (by kernel_rfl) (fun _ _ _ h => h) (Or.inl ⟨by rfl, ?_⟩) (by assumption) ?_
  rotate_left
  · intro w hSw
    (try dsimp only at hSw)
    go_simp
    all_goals with_reducible rfl
  try simp only [Act.put, List.getElem_toArray, List.getElem_cons_succ, List.getElem_cons_zero, List.setIfInBounds_toArray, List.set_cons_zero, List.set_cons_succ]
  refine wpAnyH_take (i := 4) (v := ?_) rfl (by kernel_rfl) (by kernel_rfl) (by kernel_rfl) (fun _ _ _ h => h) (Or.inl ⟨by rfl, ?_⟩) (by assumption) ?_
  rotate_left
  · intro w hSw
    (try dsimp only at hSw)
    go_simp
    all_goals with_reducible rfl
  try simp only [Act.put, List.getElem_toArray, List.getElem_cons_succ, List.getElem_cons_zero, List.setIfInBounds_toArray, List.set_cons_zero, List.set_cons_succ]
  refine wpAnyH_ready (rs := [5]) (by kernel_rfl) (by simp) ?_
  refine AllReadyH.cons rfl (fun K hK => ?_) AllReadyH.nil
  rw [if_pos (by rfl)]
  go_simp
  go_at_call 80
  refine (LA.out _ (Below.drew (Below.refl _ _))).mono ?_
  rintro e w2 ⟨rfl, hb2⟩
  have B2 : Below w.heap.size w w2 := below_drew_of hb2
  clear hb2
  have c02 := (B2.cell (p := ⟨lp, 0, none⟩) hlt).trans c0
  refine hK.out _ _ ?_ (fun hHeld => ?_)
  · exact c02
  clear hK K
  try simp only [Act.put, List.getElem_toArray, List.getElem_cons_succ, List.getElem_cons_zero, List.setIfInBounds_toArray, List.set_cons_zero, List.set_cons_succ]
  refine wpAnyH_ready (rs := [6]) (by kernel_rfl) (by simp) ?_
  refine AllReadyH.cons rfl (fun K hK => ?_) AllReadyH.nil
  rw [if_pos (by rfl)]
  go_simp
  go_at_call 55
  refine ((H.out.on B2).dk.read ⟨(lgLast g).toArray⟩ (by unfold maxLen; omega)).mono ?_
  rintro e w3 hN
  change NewBytes w2 (t.bytes (lgLast g)) (fat t.D (lgLast g)).isSome _ _ at hN
  change Hid (∀ c ∈ t.bytes (lgLast g), c < 256) at hby
  generalize t.bytes (lgLast g) = bs at *
  generalize (fat t.D (lgLast g)).isSome = is at *
  obtain ⟨a3, n3, rfl, s3, _, b3⟩ := NewBytes.out (H.out.on B2).dk hN hby.out
  have B3 := B2.trans (b3.mono B2.size)
  have hmx := s3.max
  have hle := s3.le
  unfold maxLen at hmx
  clear s3 hN
  generalize bs.length = q at *
  refine hK.out _ _ ?_ (fun hHeld => ?_)
  · exact (b3.cell (p := ⟨lp, 0, none⟩) (Nat.lt_of_lt_of_le hlt B2.size)).trans c02
  clear hK K
  try simp only [Act.put, List.getElem_toArray, List.getElem_cons_succ, List.getElem_cons_zero, List.setIfInBounds_toArray, List.set_cons_zero, List.set_cons_succ]
  refine wpAnyH_take (i := 7) (v := ?_) rfl (by kernel_rfl) (by kernel_rfl) (by kernel_rfl) (fun _ _ _ h => h) (Or.inl ⟨by rfl, ?_⟩) (by assumption) ?_
  rotate_left
  · intro w hSw
    (try dsimp only at hSw)
    go_simp
    all_goals with_reducible rfl
  try simp only [Act.put, List.getElem_toArray, List.getElem_cons_succ, List.getElem_cons_zero, List.setIfInBounds_toArray, List.set_cons_zero, List.set_cons_succ]
  refine wpAnyH_take (i := 8) (v := ?_) rfl (by kernel_rfl) (by kernel_rfl) (by kernel_rfl) (fun _ _ _ h => h) (Or.inl ⟨by rfl, ?_⟩) (by assumption) ?_
  rotate_left
  · intro w hSw
    (try dsimp only at hSw)
    go_simp
    all_goals with_reducible rfl
  try simp only [Act.put, List.getElem_toArray, List.getElem_cons_succ, List.getElem_cons_zero, List.setIfInBounds_toArray, List.set_cons_zero, List.set_cons_succ]
  refine wpAnyH_take (i := 9) (v := ?_) rfl (by kernel_rfl) (by kernel_rfl) (by kernel_rfl) (fun _ _ _ h => h) (Or.inl ⟨by rfl, ?_⟩) (by assumption) ?_
  rotate_left
  · intro w hSw
    (try dsimp only at hSw)
    go_simp
    all_goals with_reducible rfl
  try simp only [Act.put, List.getElem_toArray, List.getElem_cons_succ, List.getElem_cons_zero, List.setIfInBounds_toArray, List.set_cons_zero, List.set_cons_succ]
  refine wpAnyH_take (i := 10) (v := ?_) rfl (by kernel_rfl) (by kernel_rfl) (by kernel_rfl) (fun _ _ _ h => h) (Or.inl ⟨by rfl, ?_⟩) (by assumption) ?_
  rotate_left
  · intro w hSw
    (try dsimp only at hSw)
    go_simp
    all_goals with_reducible rfl
  try simp only [Act.put, List.getElem_toArray, List.getElem_cons_succ, List.getElem_cons_zero, List.setIfInBounds_toArray, List.set_cons_zero, List.set_cons_succ]
  refine wpAnyH_take (i := 11) (v := ?_) rfl (by kernel_rfl) (by kernel_rfl) (by kernel_rfl) (fun _ _ _ h => h) (Or.inl ⟨by rfl, ?_⟩) (by assumption) ?_
  rotate_left
  · intro w hSw
    (try dsimp only at hSw)
    go_simp
    all_goals with_reducible rfl
  try simp only [Act.put, List.getElem_toArray, List.getElem_cons_succ, List.getElem_cons_zero, List.setIfInBounds_toArray, List.set_cons_zero, List.set_cons_succ]
  refine wpAnyH_done (by kernel_rfl) ?_ _
  have H3 := (H.out.on B3).at_
  have d1 := H3.c1
  have d2 := H3.c2
  have d3 := H3.c3
  obtain ⟨b, o, rfl, hb, hc⟩ := H3.row.at_ hlen
  have hrm := H3.row.max
  have hrl := H3.row.le
  unfold maxLen at hrm
  obtain ⟨n, hn⟩ : ∃ n, n = g.segs.length := ⟨_, rfl⟩
  obtain ⟨m, hm⟩ : ∃ m, m = n - 1 := ⟨_, rfl⟩
  have cm : w3.cell? ⟨b, o + m, none⟩ = some (.int .i64 (g.segs.getLastD 0)) := (hc m (by omega)).trans (by show some (Value.int .i64 (g.segs.getD m 0)) = _; rw [getLastD_getD, hm, hn])
  rw [← hn] at d2 hlen hrl
  have h0 : (0 : Int) ≤ (m : Int) := by omega
  have h1 : (m : Int) < (n : Int) := by omega
  have hw : IntKind.i64.wrap ((n : Int) - 1) = (m : Int) := by rw [IntKind.wrap_i64]; omega
  have hwq : IntKind.i64.wrap ((q : Int) + (more : Int)) = (q : Int) + (more : Int) := by rw [IntKind.wrap_i64]; omega
  generalize g.segs.getLastD 0 = v at *
  clear H3 hc hb hn hm hrm hrl c0 c02 hlt hown LA hHeld b3 hsz hlen hmx hle
  by_cases hv : v < g.next
  · have e1 : decide (v < g.next) = true := by simpa using hv
    by_cases hs : size < q + more
    · have hs' : (size : Int) < (q : Int) + (more : Int) := by omega
      have e2 : decide ((size : Int) < (q : Int) + (more : Int)) = true := by simpa using hs'
      have hres : Hid (lgFull size g t more = true) := by show _ = _; rw [hfu.out, e1]; simpa using hs
      go_wp2_with fail
      go_quiet (fail)
      go_wp2
      go_ret
      exact ⟨by rw [hres.out]; rfl, below_drews B3⟩
    · have hs' : (q : Int) + (more : Int) ≤ (size : Int) := by omega
      have e2 : decide ((size : Int) < (q : Int) + (more : Int)) = false := by simpa using hs'
      have hres : Hid (lgFull size g t more = false) := by show _ = _; rw [hfu.out, e1]; simpa using hs
      go_wp2_with fail
      go_quiet (fail)
      go_wp2
      go_ret
      exact ⟨by rw [hres.out]; rfl, below_drews B3⟩
  · have hv' : g.next ≤ v := by omega
    have e1 : decide (v < g.next) = false := by simpa using hv
    have hres : Hid (lgFull size g t more = false) := by show _ = _; rw [hfu.out, e1]; rfl
    go_wp2_with fail
    go_quiet (fail)
    go_wp2
    go_ret
    exact ⟨by rw [hres.out]; rfl, below_drews B3⟩
end
end
section
set_option linter.unusedSimpArgs false
set_option linter.unusedVariables false
open Go.RowKit
section
variable {F : Fence} {n : Nat} {P : Program} {w : World}

/-- The loop's two blocks: its record, and the block for the rounds' deferred calls. -/
structure LoopAt (D : Nat) (r : Loop) (W : World) : Prop where
  own : W.heap[D + 1]? = some (.loop r)
  shut : W.heap[D]? = some (.deferred (some []))
theorem LoopAt.abides {D B : Nat} {r : Loop} {X Y : World} {row : Option Nat} (h : LoopAt D r X) (hg : X.grownBy Y row) (hr : ∀ k, row = some k → B ≤ k ∧ ∃ o : Obj, X.heap[k]? = some o ∧ o.isWalk = true) : LoopAt D r Y :=
  ⟨(grownBy_keeps hg (fun k e => (hr k e).2) h.own rfl).trans h.own, (grownBy_keeps hg (fun k e => (hr k e).2) h.shut rfl).trans h.shut⟩
theorem LoopAt.kept {D : Nat} {r : Loop} {X Y : World} (h : LoopAt D r X) (hk : KeepsFrom D X Y) : LoopAt D r Y := ⟨hk.same _ _ (by omega) h.own rfl, hk.same _ _ (Nat.le_refl _) h.shut rfl⟩
theorem LoopAt.lt {D : Nat} {r : Loop} {X : World} (h : LoopAt D r X) : D + 1 < X.heap.size := (Array.getElem?_eq_some_iff.1 h.own).1
theorem LoopAt.put {D : Nat} {r : Loop} {X : World} (h : LoopAt D r X) (r' : Loop) : LoopAt D r' (X.putObj (D + 1) (.loop r')) := ⟨World.putObj_heap_same h.lt, (World.putObj_heap_other (by omega)).trans h.shut⟩

/-- What the iterator owes: with each x that it hands over it tells 'M x' of the world in which it does. -/
def Tells {α : Type} (F : Fence) (n : Nat) (P : Program) (gf : Nat) (lb : Array Value) (encs : α → Array Value) (M : α → World → Prop) (Kp : World → World → Prop) (S Sp : List α → Prop) (N : Nat) (w : World) : Prop :=
  ∀ (l : Nat) (J Jx : List α → World → Prop) (W : World), Below w.heap.size w W → AbidesFrom W.heap.size J → AbidesFrom W.heap.size Jx →
    (∀ pre x X, J pre X → M x X → pre.length < N → YieldAt F (n - 1) P l (encs x) X fun e Y => (e = .returned (.bool true) ∧ J (pre ++ [x]) Y ∧ Kp X Y) ∨ (e = .returned (.bool false) ∧ Jx (pre ++ [x]) Y)) → J [] W →
    CallsIn F n P gf (#[.func (.yield l) #[] #[]] ++ lb) W fun e Y => (∃ v, e = .returned v) ∧ ((∃ xs, S xs ∧ J xs Y) ∨ (∃ pre, Sp pre ∧ Jx pre Y))

theorem range_tells {α : Type} {g : Operand} {ps : Array Tmp} {assign body : Code} {Q : Exit → Act → World → Prop} {a : Act}
    (hro : F.round = none) (h1 : 1 ≤ n) {gf : Nat} {lb : Array Value} (hg : a.eval g = .func (.func gf) #[] lb) (hF : F.fn gf) (eg : ∀ args w, (callFunc gf args).run P w = .ok (.enter gf args) w)
    {encs : α → Array Value} {M : α → World → Prop} {Kp : World → World → Prop} {S Sp : List α → Prop} {N : Nat} (hseq : Tells F (n - 1) P gf lb encs M Kp S Sp N w)
    (hKt : ∀ {X Y Z : World}, Kp X Y → Kp Y Z → Kp X Z) (hKb : ∀ (W : World) (l : Nat) (o o' : Obj), w.heap.size ≤ l → W.heap[l]? = some o → o.isCells = false → o.isWalk = false → Kp W (W.putObj l o')) (hps : ∀ x, (encs x).size = ps.size)
    (I : List α → World → Prop) (Ix : Code → List α → World → Prop) (hI : OwnFrom w.heap.size I) (hIx : ∀ c, OwnFrom w.heap.size (Ix c)) (h0 : I [] w) (Ax : α → Act → World → Prop) (hAx : ∀ x a', OwnFrom w.heap.size (fun (_ : Unit) W => Ax x a' W))
    (hassign : ∀ (l : Nat) (pre : List α) (x : α) (W : World) (K : Act → World → Prop), I pre W → M x W → (∀ a' W', KeepsFrom w.heap.size W W' → Kp W W' → I pre W' → Ax x a' W' → K a' W') →
      assign.wpIn (F.inRound l) (n - 1 - 1) P (Exit.then K (fun _ _ _ => False)) { tmps := (ps.zip (encs x)).foldl (fun t (p, v) => t.setIfInBounds p v) a.tmps, defers := [] } W)
    (hbody : ∀ (l : Nat) (pre : List α) (x : α) (a' : Act) (W : World), I pre W → Ax x a' W → pre.length < N → body.wpIn (F.inRound l) (n - 1 - 1) P (ownPostG w.heap.size Kp I Ix (pre ++ [x]) W) a' W)
    (hdone : ∀ (D : Nat) (xs : List α) (W : World), w.heap.size ≤ D → S xs → I xs W → W.heap[D]? = some (.deferred (some [])) → Q .normal { a with defers := { target := .collected D, args := #[] } :: a.defers } W)
    (hstop : ∀ (D : Nat) (c : Code) (pre : List α) (W : World), w.heap.size ≤ D → Sp pre → Ix c pre W → W.heap[D]? = some (.deferred (some [])) → c.wpIn F n P Q { a with defers := { target := .collected D, args := #[] } :: a.defers } W) :
    (Code.rangeFunc g ps assign body).wpIn F n P Q a w := by
  refine wpIn_rangeFunc fun fn hfn => ?_
  rw [hro]
  obtain ⟨R, hR⟩ : ∃ R : LoopState → Option Code → Loop, R = fun s p => { state := s, pending := p, fn, tmps := a.tmps, params := ps, assign, body, defers := w.heap.size } := ⟨_, rfl⟩
  obtain ⟨V, hV⟩ : ∃ V, V = (w.alloc (.deferred (some []))).alloc (.loop (R .ready none)) := ⟨_, rfl⟩
  have hsV : V.heap.size = w.heap.size + 2 := by rw [hV]; simp
  have hL : LoopAt w.heap.size (R .ready none) V := by
    rw [hV]
    refine ⟨?_, (Below.heap_alloc _ _ _ (by simp)).trans (World.alloc_heap_new w _)⟩
    have := World.alloc_heap_new (w.alloc (.deferred (some []))) (.loop (R .ready none))
    rwa [World.size_alloc] at this
  have hIV : I [] V := by rw [hV]; exact hI.alloc _ (hI.alloc _ h0)
  have hbV : Below w.heap.size w V := by rw [hV]; exact ((Below.refl _ w).alloc (Nat.le_refl _) _).alloc (by simp) _
  refine ⟨w.heap.size + 1, [{ target := .collected w.heap.size, args := #[] }], V, { target := .fn (.func gf) lb, args := #[.func (.yield (w.heap.size + 1)) #[] #[]] }, V, gf, #[.func (.yield (w.heap.size + 1)) #[] #[]] ++ lb, V, ?_, ?_, ?_, ?_, fun _ => h1, ?_⟩
  · rw [hV, hR]; exact run_enterLoop_outer _ _ _ _ _
  · simp only [resolve, hg]; simp [go_sem]
  · intro f' hf'; simp [Target.leads] at hf'; subst hf'; exact hF
  · simp [invoke, go_sem, eg]
  have rows : ∀ {X Y : World} {row : Option Nat}, (∀ r, row = some r → V.heap.size ≤ r ∧ ∃ o : Obj, X.heap[r]? = some o ∧ o.isWalk = true) → (∀ r, row = some r → w.heap.size ≤ r ∧ ∃ o : Obj, X.heap[r]? = some o ∧ o.isCells = false) := fun hr r e => by
    obtain ⟨hB, o, ho, hw⟩ := hr r e
    exact ⟨by omega, o, ho, Obj.not_cells_of_walk hw⟩
  refine (hseq (w.heap.size + 1) (fun pre W => I pre W ∧ LoopAt w.heap.size (R .ready none) W) (fun pre W => ∃ c, Ix c pre W ∧ LoopAt w.heap.size (R .done (some c)) W) V hbV
    (fun s X Y row h hg' hr => ⟨hI s X Y row h.1 hg' (rows (Y := Y) hr), h.2.abides hg' hr⟩)
    (fun s X Y row h hg' hr => by obtain ⟨c, h1, h2⟩ := h; exact ⟨c, hIx c s X Y row h1 hg' (rows (Y := Y) hr), h2.abides hg' hr⟩) ?_ ⟨hIV, hL⟩).mono ?_
  · rintro pre x X ⟨hi, hX⟩ hm hlen
    have hy := run_yield (P := P) (args := encs x) hX.own (by rw [hR]; exact hps x)
    rw [hR] at hy
    refine ⟨fn, _, assign, body, hy, roundIn_of_wpIn hfn (hassign _ pre x X _ hi hm ?_)⟩
    clear hy
    intro a' Y hkf hkp hiY hax
    have hY := hX.kept hkf
    refine ⟨_, run_beginRound hY.own (by rw [hR]), ?_⟩
    have hZ := hY.put { R .ready none with state := .busy }
    have hkZ : Kp Y (Y.putObj (w.heap.size + 1) (.loop { R .ready none with state := .busy })) := hKb _ _ _ _ (by omega) hY.own rfl rfl
    refine wpIn_mono (hbody _ pre x a' _ (hI.putObj _ hiY (by omega) hY.own rfl) ((hAx x a').putObj (s := ()) _ hax (by omega) hY.own rfl) hlen) ?_
    have fin : ∀ (jump : Option Code) (U : World), KeepsFrom w.heap.size (Y.putObj (w.heap.size + 1) (.loop { R .ready none with state := .busy })) U →
        (Instr.endRound (w.heap.size + 1) jump).run P U = .ok (.bool jump.isNone) (U.putObj (w.heap.size + 1) (.loop (R (if jump.isNone then .ready else .done) jump))) ∧ LoopAt w.heap.size { R .ready none with state := .busy } U ∧
        LoopAt w.heap.size (R (if jump.isNone then .ready else .done) jump) (U.putObj (w.heap.size + 1) (.loop (R (if jump.isNone then .ready else .done) jump))) := fun jump U hk => by
      have hU := hZ.kept hk
      have := run_endRound (P := P) jump hU.own
      refine ⟨?_, hU, hU.put _⟩
      rw [hR] at this ⊢
      exact this
    rintro e a3 U hp
    match e, hp with
    | .normal, ⟨p1, p2, p3⟩ =>
      obtain ⟨q1, q2, q3⟩ := fin none U p1
      exact ⟨_, _, q1, .inl ⟨rfl, ⟨hI.putObj _ p3 (by omega) q2.own rfl, q3⟩, hKt hkp (hKt (hKt hkZ p2) (hKb _ _ _ _ (by omega) q2.own rfl rfl))⟩⟩
    | .ret, ⟨p1, p3⟩ =>
      obtain ⟨q1, q2, q3⟩ := fin (some .ret) U p1
      exact ⟨_, _, q1, .inr ⟨rfl, .ret, (hIx _).putObj _ p3 (by omega) q2.own rfl, q3⟩⟩
    | .exit id, ⟨p1, p3⟩ =>
      obtain ⟨q1, q2, q3⟩ := fin (some (.exit id)) U p1
      exact ⟨_, _, q1, .inr ⟨rfl, .exit id, (hIx _).putObj _ p3 (by omega) q2.own rfl, q3⟩⟩
    | .goto t, ⟨p1, p3⟩ =>
      obtain ⟨q1, q2, q3⟩ := fin (some (.goto t)) U p1
      exact ⟨_, _, q1, .inr ⟨rfl, .goto t, (hIx _).putObj _ p3 (by omega) q2.own rfl, q3⟩⟩
  · rintro e U ⟨⟨v, rfl⟩, h⟩
    have last : ∀ {s : LoopState} {p : Option Code}, LoopAt w.heap.size (R s p) U → s ≠ .busy → (Instr.endLoop (w.heap.size + 1)).run P U = .ok p (U.putObj (w.heap.size + 1) (.loop { R s p with state := .exhausted })) := fun {s p} h hs => by
      have := run_endLoop (P := P) h.own (by rw [hR]; exact hs)
      rw [hR] at this ⊢
      exact this
    rcases h with ⟨xs, hS, hi, hU⟩ | ⟨pre, hSp, c, hi, hU⟩
    · exact ⟨none, _, last hU (by simp), hdone _ xs _ (Nat.le_refl _) hS (hI.putObj _ hi (by omega) hU.own rfl) ((World.putObj_heap_other (by omega)).trans hU.shut)⟩
    · exact ⟨some c, _, last hU (by simp), hstop _ c pre _ (Nat.le_refl _) hSp ((hIx c).putObj _ hi (by omega) hU.own rfl) ((World.putObj_heap_other (by omega)).trans hU.shut)⟩
end
end
end Go.Proofs.YtphjpjlifdabfaaGreatDoor
