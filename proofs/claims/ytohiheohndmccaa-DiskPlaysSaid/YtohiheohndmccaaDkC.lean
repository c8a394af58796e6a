/- Contracts of the program's disk: New, look-ups, lay. -/
import Derived.Test.YtohiheohndmccaaDkB
import Derived.Test.YtohiheohndmccaaLib
import Derived.Test.YtohiheohndmccaaTake
import Derived.Test.YtohiheohndmccaaHeld
namespace Go.Proofs.Ytohiheohndmccaa
open Go.RowKit
open Go.Maps

theorem But.cell {O : Nat → Prop} {w w' : World} (h : But O w w') {b o : Nat} (hb : b < w.heap.size) (hn : ¬ O b) : w'.cell? ⟨b, o, none⟩ = w.cell? ⟨b, o, none⟩ := World.cell?_of_block (w := w) (a := ⟨b, o, none⟩) (h.block b hb hn)
theorem But.frozen {O : Nat → Prop} {w w' : World} (h : But O w w') {b o : Nat} (hb : b < w.heap.size) (hn : ¬ O b) : w'.frozen? ⟨b, o, none⟩ = w.frozen? ⟨b, o, none⟩ := World.frozen?_of_block (w := w) (a := ⟨b, o, none⟩) (h.block b hb hn)

/-- All keys, in their order. -/
def keysL {H : Type} : DataW H → List Lit
  | .map es => es.map (·.1)
  | _ => []
theorem keysL_mem {H : Type} {D : DataW H} (h : Canon D) (k : Lit) : k ∈ keysL D ↔ has D k = true := by
  obtain ⟨es, rfl, _, hk⟩ := h
  show k ∈ es.map (·.1) ↔ es.any (fun p => p.1.sameKey k) = true
  rw [List.mem_map, List.any_eq_true]
  constructor
  · rintro ⟨p, hp, rfl⟩
    exact ⟨p, hp, WideAt.sameKey_self (hk p hp)⟩
  · rintro ⟨p, hp, hs⟩
    exact ⟨p, hp, WideAt.sameKey_eq hs⟩
theorem keysL_sorted {H : Type} {D : DataW H} (h : Canon D) : (keysL D).Pairwise (fun a b => a.before b = true) := by
  obtain ⟨es, rfl, h1, _⟩ := h
  exact List.pairwise_map.2 h1
theorem sorted_eq : ∀ {l₁ l₂ : List Lit}, l₁.Pairwise (fun p q => p.before q = true) → l₂.Pairwise (fun p q => p.before q = true) → (∀ p, p ∈ l₁ ↔ p ∈ l₂) → l₁ = l₂
  | [], [], _, _, _ => rfl
  | [], b :: s, _, _, h => by have := (h b).2 (by simp); simp at this
  | a :: r, [], _, _, h => by have := (h a).1 (by simp); simp at this
  | a :: r, b :: s, h1, h2, h => by
    obtain ⟨a1, a2⟩ := List.pairwise_cons.1 h1
    obtain ⟨b1, b2⟩ := List.pairwise_cons.1 h2
    have irr : ∀ {x y : Lit}, x.before y = true → y.before x = true → False := fun {x y} h h' => by
      have := WideShapes.before_trans h h'
      rw [WideShapes.before_irrefl] at this
      cases this
    have hab : a = b := by
      rcases List.mem_cons.1 ((h a).1 (by simp)) with e | ha
      · exact e
      · rcases List.mem_cons.1 ((h b).2 (by simp)) with e | hb
        · exact e.symm
        · exact (irr (a1 b hb) (b1 a ha)).elim
    subst hab
    rw [sorted_eq a2 b2 (fun p => ⟨fun hp => by
      rcases List.mem_cons.1 ((h p).1 (by simp [hp])) with e | hp'
      · subst e; exact (irr (a1 p hp) (a1 p hp)).elim
      · exact hp', fun hp => by
      rcases List.mem_cons.1 ((h p).2 (by simp [hp])) with e | hp'
      · subst e; exact (irr (b1 p hp) (b1 p hp)).elim
      · exact hp'⟩)]
theorem keysL_eq {H H' : Type} {C : DataW H} {D : DataW H'} (hC : Canon C) (hD : Canon D) (h : ∀ k, has C k = has D k) : keysL C = keysL D :=
  sorted_eq (keysL_sorted hC) (keysL_sorted hD) (fun k => by rw [keysL_mem hC, keysL_mem hD, h])
theorem size_keysL {H : Type} (D : DataW H) : size D = (keysL D).length := by cases D <;> simp [size, keysL]
theorem strKeys_keysL {H : Type} (D : DataW H) : strKeys D = (keysL D).map Go.strOf := by cases D <;> simp [strKeys, keysL]
theorem zero_file (w : World) : (zeroValue 56).run Try.prog w = .ok Fe.zero.val w := by kernel_rfl
theorem look_held {w : World} {mb dp : Nat} {C : DataW Fe} {D : FS} {O : Nat → Prop} (h : Files w mb dp C D O) (k : Lit) : C.atKey k (.held Fe.zero) = .held (cat C k) := by
  rw [atKey_look]
  unfold cat
  have := h.at_ k
  match hc : look C k, hd : look D k with
  | none, _ => rfl
  | some (.held f), _ => rfl
  | some (.lit _), none | some .nil, none | some (.ptr _), none | some (.slice _ _), none | some (.agg _), none | some (.iface _ _), none | some (.map _), none => rw [hc, hd] at this; exact this.elim
  | some (.lit _), some _ | some .nil, some _ | some (.ptr _), some _ | some (.slice _ _), some _ | some (.agg _), some _ | some (.iface _ _), some _ | some (.map _), some _ => rw [hc, hd] at this; exact this.elim
section
variable {w : World} {mb dp : Nat} {C : DataW Fe} {D : FS} {O : Nat → Prop}
theorem Files.keys_ (h : Files w mb dp C D O) (hD : Canon D) : keysL C = keysL D := keysL_eq h.canon hD h.has_
theorem Files.size_ (h : Files w mb dp C D O) (hD : Canon D) : size C = size D := by rw [size_keysL, size_keysL, h.keys_ hD]
theorem Files.cat_ (h : Files w mb dp C D O) (s : List UInt8) (f : Fl) (hf : fat D s = some f) : look C (.string s) = some (.held (cat C (.string s))) ∧ (cat C (.string s)).l = (f.l : Int) ∧ OwnB w 0 5 (cat C (.string s)).sl f.bs := by
  have := h.at_ (.string s)
  unfold fat at hf
  unfold cat
  match hc : look C (.string s), hd : look D (.string s) with
  | none, some _ => rw [hc, hd] at this; exact this.elim
  | _, none => rw [hd] at hf; cases hf
  | some (.held g), some (.held f') =>
    rw [hd] at hf
    injection hf with hf
    subst hf
    rw [hc, hd] at this
    exact ⟨rfl, this⟩
  | some (.held _), some (.lit _) | some (.held _), some .nil | some (.held _), some (.ptr _) | some (.held _), some (.slice _ _) | some (.held _), some (.agg _) | some (.held _), some (.iface _ _) | some (.held _), some (.map _) => rw [hd] at hf; cases hf
  | some (.lit _), some _ | some .nil, some _ | some (.ptr _), some _ | some (.slice _ _), some _ | some (.agg _), some _ | some (.iface _ _), some _ | some (.map _), some _ => rw [hc, hd] at this; exact this.elim
theorem Files.cat_none (h : Files w mb dp C D O) {room : Nat} (hG : Good D room) (s : List UInt8) (hf : fat D s = none) : look C (.string s) = none ∧ cat C (.string s) = Fe.zero := by
  have h1 : look C (.string s) = none := by
    have h2 := h.has_ (.string s)
    rw [hG.has_, hf, has_look] at h2
    cases hl : look C (.string s) with
    | none => rfl
    | some _ => rw [hl] at h2; cases h2
  exact ⟨h1, by unfold cat; rw [h1]⟩
/-- 'm[name]', in whatever world in which the map is as it is. -/
theorem Files.run_look (h : Files w mb dp C D O) {s : ByteArray} (hs : s.size ≤ maxLen) (w' : World) (hw : w'.heap[mb]? = w.heap[mb]?) :
    (Instr.lookup 49 (.map (some mb)) (.string s) false).run Try.prog w' = .ok (cat C (.string s.data.toList)).val w' ∧
    (Instr.lookup 49 (.map (some mb)) (.string s) true).run Try.prog w' = .ok (.tuple #[(cat C (.string s.data.toList)).val, .bool (has C (.string s.data.toList))]) w' := by
  obtain ⟨es, clock, hb, F, hsz, hD⟩ := h.owns
  have own : w'.ownsMap Try.prog 9 rdF mb (size C) C := ⟨es, clock, hw.trans hb, F, hsz, hD⟩
  obtain ⟨v, ps, h1, h2⟩ := own.lookup law9 Try.underlying49 (zero_file w') (rdF_val Fe.zero) (Files.key hs)
  obtain ⟨v', ps', h1', h2'⟩ := own.look_ok law9 Try.underlying49 (zero_file w') (rdF_val Fe.zero) (Files.key hs)
  rw [look_held h] at h2 h2'
  obtain ⟨f, rfl, e⟩ := rdF_inv h2
  obtain ⟨f', rfl, e'⟩ := rdF_inv h2'
  simp only [Prod.mk.injEq, DataW.held.injEq] at e e'
  rw [← e.1] at h1
  rw [← e'.1] at h1'
  exact ⟨h1, h1'⟩
theorem Files.run_len (h : Files w mb dp C D O) (w' : World) (hw : w'.heap[mb]? = w.heap[mb]?) (hC : Canon D) (ty : TypeId) : (Builtin.len_ #[49] ty #[.map (some mb)]).run Try.prog w' = .ok (.int .i64 (size D : Nat)) w' := by
  obtain ⟨es, clock, hb, F, hsz, hD⟩ := h.owns
  have own : w'.ownsMap Try.prog 9 rdF mb (size C) C := ⟨es, clock, hw.trans hb, F, hsz, hD⟩
  rw [own.len Try.underlying49 ty, h.size_ hC]
end
end Go.Proofs.Ytohiheohndmccaa
