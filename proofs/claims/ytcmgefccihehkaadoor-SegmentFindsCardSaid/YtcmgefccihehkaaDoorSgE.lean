/- The reference's Index: plain mathematics: the places of the frames that scan tells. -/
import Derived.Test.YtcmgefccihehkaaDoorSgY
import Derived.Test.YtcmgefccihehkaaDoorSgD
namespace Go.Proofs.YtcmgefccihehkaaDoor
open Go.RowKit
open Crc Frm

theorem scan_spec : ∀ (n : Nat) (bs : List Nat) (first : Int), (∀ c ∈ bs, c < 256) → bs.length < n → (∀ f ∈ (scan bs first).1, f.right) ∧ bs.take (scan bs first).2 = rows (scan bs first).1 := by
  intro n
  induction n with
  | zero => intro bs first _ h; omega
  | succ n ih =>
    intro bs first hb hn
    by_cases h : (get bs).2.2 = 0 ∧ (get bs).1.seq = first
    · obtain ⟨hr, hg, hl, hs, h18⟩ := get_ok bs h.1
      have e := scan_step bs first h.1 h.2
      rw [hg] at e
      simp only at e
      obtain ⟨i1, i2⟩ := ih (bs.drop (szOf bs + 11)) (first + 1) (fun c hc => hb c (List.mem_of_mem_drop hc)) (by rw [List.length_drop]; omega)
      rw [e]
      refine ⟨fun f hf => ?_, ?_⟩
      · rcases List.mem_cons.1 hf with rfl | hf
        · exact hr
        · exact i1 f hf
      · simp only
        rw [List.take_add, i2, rows_cons]
        congr 1
        exact (raw_back bs hb h.1).symm
    · rw [scan_stop bs first h]
      exact ⟨by simp, rfl⟩
/-- The index of any bytes, by the frames that Read tells. -/
def rix (bs : List Nat) (every : Int) : List (Int × Int) := if (rd bs).2.2.2 ≠ 0 ∨ every < 1 then [] else ix (tl (rd bs).2.1 12) every.toNat 0
theorem rix_idx (bs : List Nat) (hb : ∀ c ∈ bs, c < 256) (every : Int) : idx bs every = rix bs every := by
  unfold idx rix
  by_cases h : (rd bs).2.2.2 ≠ 0 ∨ every < 1
  · rw [if_pos h, if_pos h]
  · rw [if_neg h, if_neg h]
    have h0 : (rd bs).2.2.2 = 0 := by
      by_cases h1 : (rd bs).2.2.2 = 0
      · exact h1
      · exact absurd (.inl h1) h
    have e : rd bs = ((rh bs).1, (scan (bs.drop 12) ((rh bs).1 : Int)).1, 12 + (scan (bs.drop 12) ((rh bs).1 : Int)).2, 0) := by
      unfold rd at h0 ⊢
      split at h0
      · rename_i h1; exact absurd h0 h1
      · rename_i h1; rw [if_neg h1]
    have hok : (rh bs).2 = 0 := by
      unfold rd at h0
      split at h0
      · rename_i h1; exact absurd h0 h1
      · rename_i h1; simpa using h1
    obtain ⟨_, h12⟩ := rh_ok bs hok
    obtain ⟨s1, s2⟩ := scan_spec (bs.length + 1) (bs.drop 12) ((rh bs).1 : Int) (fun c hc => hb c (List.mem_of_mem_drop hc)) (by rw [List.length_drop]; omega)
    rw [e]
    simp only
    generalize scan (bs.drop 12) ((rh bs).1 : Int) = sc at s1 s2
    obtain ⟨fs, m⟩ := sc
    simp only at s1 s2 ⊢
    rw [List.take_add, s2]
    have hl : (bs.take 12).length = 12 := by rw [List.length_take]; omega
    have := told_rows fs (bs.take 12) ((bs.take 12 ++ rows fs).length + 1) s1 (by
      have : ∀ (M : List Fr), M.length ≤ (rows M).length := by
        intro M
        induction M with
        | nil => simp
        | cons f r ih => rw [rows_cons, List.length_append, raw_len, List.length_cons]; omega
      have := this fs
      rw [List.length_append]
      omega)
    rw [hl] at this
    unfold tolds
    rw [this]
end Go.Proofs.YtcmgefccihehkaaDoor
