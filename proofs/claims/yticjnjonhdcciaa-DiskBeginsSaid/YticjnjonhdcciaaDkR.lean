/- What lasts. -/
import Derived.Test.YticjnjonhdcciaaDkQ
namespace Go.Proofs.Yticjnjonhdcciaa
open Go.RowKit Go.Sort
open Go.Maps
attribute [local go_sem] Oper.semAt_some

/-- What lasts of a file stays. -/
def Lst (D D' : FS) (s : List UInt8) : Prop := ∀ f, fat D s = some f → ∃ f', fat D' s = some f' ∧ f.l ≤ f'.l ∧ f'.bs.take f.l = f.bs.take f.l
theorem Lst.refl (D : FS) (s : List UInt8) : Lst D D s := fun f hf => ⟨f, hf, Nat.le_refl _, rfl⟩
theorem Lst.of_eq {D D' : FS} {s : List UInt8} (h : fat D' s = fat D s) : Lst D D' s := fun f hf => ⟨f, h.trans hf, Nat.le_refl _, rfl⟩
theorem Lst.sync {t : St} (h : Good t.D t.room) (nm s : List UInt8) : Lst t.D (t.sync nm).2.D s ∧ ((t.sync nm).1 = 0 → nm = s → ∀ f', fat (t.sync nm).2.D s = some f' → f'.l = f'.bs.length) := by
  unfold St.sync
  split
  · exact ⟨Lst.refl _ _, fun e => by simp at e⟩
  split
  · exact ⟨Lst.refl _ _, fun e => by simp at e⟩
  · rename_i f hf
    split
    · exact ⟨Lst.refl _ _, fun e => by simp at e⟩
    · by_cases e : s = nm
      · subst e
        have h1 := fat_put_same (canon_map h.canon) s ⟨f.bs, f.bs.length⟩
        refine ⟨fun g hg => ⟨_, h1, ?_, ?_⟩, fun _ _ f' hf' => ?_⟩
        · rw [hf] at hg; injection hg with hg; subst hg; exact (h.at_ hf).2.1
        · rw [hf] at hg; injection hg with hg; subst hg; rfl
        · rw [h1] at hf'; injection hf' with hf'; rw [← hf']
      · exact ⟨Lst.of_eq (fat_put_other e _), fun _ e' => absurd e'.symm e⟩
theorem sync_there {t : St} (h : Good t.D t.room) (nm : List UInt8) (h0 : (t.sync nm).1 = 0) : fat (t.sync nm).2.D nm ≠ none := by
  unfold St.sync at h0 ⊢
  split
  · rename_i h1; rw [if_pos h1] at h0; simp at h0
  · rename_i h1
    rw [if_neg h1] at h0
    split
    · rename_i h2; rw [h2] at h0; simp at h0
    · rename_i f h2
      rw [h2] at h0
      split
      · rename_i h3; simp only [if_pos h3] at h0; simp at h0
      · show fat (t.D.put (.string nm) (.held ⟨f.bs, f.bs.length⟩)) nm ≠ none
        rw [fat_put_same (canon_map h.canon)]
        simp
theorem Lst.write {t : St} (h : Good t.D t.room) (nm : List UInt8) (b : List Nat) (s : List UInt8) : Lst t.D (t.write nm b).2.D s := by
  unfold St.write
  split
  · exact Lst.refl _ _
  split
  · exact Lst.refl _ _
  split
  · exact Lst.refl _ _
  · by_cases e : s = nm
    · subst e
      intro f hf
      refine ⟨_, fat_put_same (canon_map h.canon) s _, ?_, ?_⟩
      · rw [hf]; exact Nat.le_refl _
      · rw [hf]
        have := (h.at_ hf).2.1
        simp only [Option.getD_some]
        rw [List.take_append_of_le_length this]
    · exact Lst.of_eq (fat_put_other e _)
theorem Lst.rename {t : St} (h : Good t.D t.room) (nm to s : List UInt8) (hn : ¬ ((t.rename nm to).1 = 0 ∧ (nm = s ∨ to = s))) : Lst t.D (t.rename nm to).2.D s := by
  unfold St.rename at hn ⊢
  split
  · exact Lst.refl _ _
  split
  · exact Lst.refl _ _
  split
  · exact Lst.refl _ _
  · rename_i h1 h2 _ f hf
    rw [if_neg h1, if_neg h2, hf] at hn
    have h3 : nm ≠ s := fun e => hn ⟨rfl, .inl e⟩
    have h4 : to ≠ s := fun e => hn ⟨rfl, .inr e⟩
    exact Lst.of_eq ((fat_put_other (fun e => h4 e.symm) _).trans (fat_del_other (fun e => h3 e.symm)))
theorem Lst.delete {t : St} (nm s : List UInt8) (hn : ¬ ((t.delete nm).1 = 0 ∧ nm = s)) : Lst t.D (t.delete nm).2.D s := by
  unfold St.delete at hn ⊢
  split
  · exact Lst.refl _ _
  split
  · exact Lst.refl _ _
  · rename_i h1 _ f hf
    rw [if_neg h1, hf] at hn
    exact Lst.of_eq (fat_del_other (fun e => hn ⟨rfl, e.symm⟩))
theorem Lst.crash {t : St} (h : Good t.D t.room) (ks : List Int) (s : List UInt8) : Lst t.D (t.crash ks).D s ∧ ∀ f', fat (t.crash ks).D s = some f' → f'.l = f'.bs.length := by
  have key : ∀ f, fat t.D s = some f → ∃ j, j < size t.D ∧ fat (t.crash ks).D s = some (crF ks j f) := fun f hf => by
    obtain ⟨j, hj⟩ := List.getElem?_of_mem ((names_mem h s).2 (by rw [hf]; rfl))
    have hl : j < size t.D := by rw [← size_names]; exact (List.getElem?_eq_some_iff.1 hj).1
    exact ⟨j, hl, by show fat (crD ks (size t.D) t.D) s = _; rw [fat_crD ks _ h hj hf, if_pos hl]⟩
  refine ⟨fun f hf => ?_, fun f' hf' => ?_⟩
  · obtain ⟨j, _, hj⟩ := key f hf
    have hm := crM_le ks j (h.at_ hf).2.1
    exact ⟨_, hj, hm.1, by simp only [crF]; rw [List.take_take]; congr 1; omega⟩
  · cases hf : fat t.D s with
    | some f =>
      obtain ⟨j, _, hj⟩ := key f hf
      rw [hj] at hf'
      injection hf' with hf'
      subst hf'
      have hm := crM_le ks j (h.at_ hf).2.1
      simp only [crF, List.length_take]
      omega
    | none =>
      have h1 : s ∉ strKeys (crD ks (size t.D) t.D) := by rw [names_crD, names_mem h, hf]; decide
      exfalso
      have h2 : has (crD ks (size t.D) t.D) (.string s) = true := by
        rw [has_look]
        unfold fat at hf'
        change (match look (crD ks (size t.D) t.D) (.string s) with | some (.held f) => some f | _ => none) = some f' at hf'
        cases hl : look (crD ks (size t.D) t.D) (.string s) with
        | none => rw [hl] at hf'; cases hf'
        | some _ => rfl
      have h3 := (keysL_mem (canon_crD ks (size t.D) h.canon) _).2 h2
      exact h1 (by rw [strKeys_keysL]; exact List.mem_map.2 ⟨_, h3, rfl⟩)
theorem Lst.do_ {t : St} (h : Good t.D t.room) (op : OpV) (s : List UInt8) :
    (¬ (op.what = 5 ∧ (t.do_ op).1 = 0 ∧ (op.nm.data.toList = s ∨ op.to_.data.toList = s) ∨ op.what = 6 ∧ (t.do_ op).1 = 0 ∧ op.nm.data.toList = s) → Lst t.D (t.do_ op).2.D s) ∧
    ((op.what = 3 ∨ op.what = 4) ∧ (t.do_ op).1 = 0 ∧ op.nm.data.toList = s ∨ op.what = 9 → ∀ f', fat (t.do_ op).2.D s = some f' → f'.l = f'.bs.length) ∧
    ((op.what = 3 ∨ op.what = 4) ∧ (t.do_ op).1 = 0 ∧ op.nm.data.toList = s → fat (t.do_ op).2.D s ≠ none) := by
  unfold St.do_
  split
  · have := Lst.sync h op.nm.data.toList s
    exact ⟨fun _ => this.1, fun h' => by rcases h' with ⟨_, h1, h2⟩ | h'; exact this.2 h1 h2; omega, fun ⟨_, h1, h2⟩ => by rw [← h2]; exact sync_there h _ h1⟩
  split
  · exact ⟨fun hn => Lst.rename h _ _ _ (fun h' => hn (.inl ⟨by assumption, h'⟩)), fun h' => by omega, fun h' => by omega⟩
  split
  · exact ⟨fun hn => Lst.delete _ _ (fun h' => hn (.inr ⟨by assumption, h'⟩)), fun h' => by omega, fun h' => by omega⟩
  split
  · exact ⟨fun _ => Lst.refl _ _, fun h' => by omega, fun h' => by omega⟩
  split
  · exact ⟨fun _ => Lst.refl _ _, fun h' => by omega, fun h' => by omega⟩
  split
  · exact ⟨fun _ => (Lst.crash h _ _).1, fun _ => (Lst.crash h _ _).2, fun h' => by omega⟩
  · exact ⟨fun _ => Lst.write h _ _ _, fun h' => by omega, fun h' => by omega⟩
end Go.Proofs.Yticjnjonhdcciaa
