/- The reference's disk: List. -/
import Derived.Test.YtohiheohndmccaaGreatRdF
namespace Go.Proofs.YtohiheohndmccaaGreat
open Go.RowKit Go.Sort
open Go.Maps
attribute [local go_sem] Oper.semAt_some

section
variable {w : World} {rp : Nat} {t : St} {O : Nat → Prop} {a : Option Addr} {c : Nat} {es : List REnt}
abbrev namesV (es : List REnt) : List Value := es.map fun e => .string ⟨e.s.toArray⟩
theorem names_row {w : World} {base : Nat} {v : Value} {es : List REnt} (h : OwnV w base 9 v (namesV es)) : ∃ a c, v = .slice a es.length c ∧ Row w w.heap.size a es.length c 1 (strC (es.map (·.s))) := by
  have hl : (namesV es).length = es.length := List.length_map _
  rcases h.2 with ⟨h1, h2⟩ | ⟨g, cap, cur, h1, h2, h3, h4, h5, h6⟩
  · subst h1
    have hn : es.length = 0 := by rw [← hl]; exact h2
    rw [hn]
    exact ⟨none, 0, rfl, ⟨Nat.le_refl _, by simp [maxLen], fun hp => absurd hp (by omega)⟩⟩
  · subst h1
    rw [hl] at h4
    refine ⟨_, cap, by rw [hl], ⟨h4, h5, fun _ => ⟨g, 0, rfl, lt_of_heap h3, fun j hj => ?_⟩⟩⟩
    have hj' : j < es.length := by omega
    rw [Nat.zero_add, (OwnV.cell h (k := j) (u := .string ⟨es[j].s.toArray⟩) (by rw [List.getElem?_map, List.getElem?_eq_getElem hj']; rfl)).1]
    simp only [strC, List.getD_eq_getElem?_getD, List.getElem?_map, List.getElem?_eq_getElem hj']
    rfl
set_option linter.unusedSimpArgs false in
set_option maxRecDepth 100000 in
set_option maxHeartbeats 1600000 in
theorem rlist_any (h : RdC w rp t O a c es) : Calls Tryz.prog 17 #[.pointer (some ⟨rp, 0, none⟩)] w fun e w' => ∃ a' c', e = .returned (.slice a' es.length c') ∧ Row w' w'.heap.size a' es.length c' 1 (strC (es.map (·.s))) ∧ Below w.heap.size w w' := by
  have c1 := h.cell.2.1
  have hcap := h.len_
  have hrl := h.lt rp h.rpO
  have HH := Lib.hid h
  clear h
  obtain ⟨i0, hi, hz0, hz1, hz2⟩ := info_parts info_str
  obtain ⟨n, hn⟩ : ∃ n, n = es.length := ⟨_, rfl⟩
  rw [← hn] at c1 hcap
  have HN := Lib.hid hn
  have C1 := Lib.hid c1
  clear hn c1
  go_enter Tryz.func17, Tryz.ntmps17
  go_wp2_with fail
  go_loopw [3, 4] (fun v i wr => ∃ k : Nat, k ≤ n ∧ i = .int .i64 (k : Int) ∧ OwnV wr w.heap.size 9 v (namesV (es.take k)) ∧ Below w.heap.size w wr) (fun _ i _ => n - (intOf i).toNat)
  case atStart => exact ⟨0, Nat.zero_le _, rfl, OwnV.nil_ _ _ _, Below.refl _ _⟩
  case round =>
    obtain ⟨k, hk, rfl, ho, hb⟩ := hrel
    have k1 := (hb.cell (p := ⟨rp, 1, none⟩) hrl).trans C1.out
    by_cases hlt : k < n
    · obtain ⟨g, hg, _, _, hgl, _, _, hc⟩ := HH.out.at_ (by have := HN.out; omega)
      subst hg
      have hke : k < es.length := by have := HN.out; omega
      have q0 := (hb.cell (p := ⟨g, k * 3, none⟩) hgl).trans (hc k es[k] (List.getElem?_eq_getElem hke)).1
      have hst : namesV (es.take (k + 1)) = namesV (es.take k) ++ [.string ⟨es[k].s.toArray⟩] := by
        rw [List.take_succ_eq_append_getElem hke]
        show List.map _ (_ ++ _) = _
        rw [List.map_append]
        rfl
      have hlen : (namesV (es.take k)).length ≤ 64 := by simp; omega
      obtain ⟨e0, he0⟩ : ∃ e0, e0 = es[k] := ⟨_, rfl⟩
      rw [← he0] at q0 hst
      have Hst := Lib.hid hst
      have HB := Lib.hid (And.intro hb ho)
      obtain ⟨xs, hxs⟩ : ∃ xs, xs = namesV (es.take k) := ⟨_, rfl⟩
      rw [← hxs] at HB hlen Hst
      have ho' : OwnV wr w.heap.size 9 _ xs := HB.out.2
      clear hc he0 hke hst ho hb hxs hgl
      go_wp2_with (first
        | (at_builtin; go_loud (refine wpList_append_own _ rfl _ _ 44 rfl w.heap.size 9 i0 (.string ⟨#[]⟩) 1 16 Tryz.underlying44 hi hz0 hz1 hz2 rfl (by decide) _ xs.length xs rfl (OwnV.alloc ho' _) ⟨wr.heap.size, 0, none⟩ 1 1 [.string ⟨e0.s.toArray⟩] rfl rfl (cell_one_new _ _ _) (by simp [Value.oneCell']) (by unfold maxLen; omega) (by omega) (by have := HB.out.1.size; simp; omega) ?_); intro v5 w5 ho5 hg5 _; have hB5 : Below w.heap.size w w5 := (HB.out.1.alloc HB.out.1.size _).grown hg5 (by have := HB.out.1.size; simp; omega) (fun q hq => (ho'.at_base hq).1); have H5 := Lib.hid (And.intro (show OwnV w5 w.heap.size 9 v5 (xs ++ [.string ⟨e0.s.toArray⟩]) by unfold OwnV; rw [List.length_append]; exact ho5) hB5); clear ho5 hB5 hg5)
        | fail)
      go_roundw
      case rel => exact ⟨k + 1, by omega, by go_num, by rw [Hst.out]; exact H5.out.1, H5.out.2⟩
      case measure => simp [intOf]; omega
    · rw [List.take_of_length_le (by have := HN.out; omega)] at ho
      obtain ⟨a9, c9, rfl, hr⟩ := names_row ho
      have HR := Lib.hid (And.intro hr hb)
      clear ho hr hb
      go_wp2
      go_ret
      exact ⟨a9, c9, rfl, HR.out.1, HR.out.2⟩
end
end Go.Proofs.YtohiheohndmccaaGreat
