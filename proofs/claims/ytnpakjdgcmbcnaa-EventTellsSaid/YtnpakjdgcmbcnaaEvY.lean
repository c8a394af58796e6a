/- The writer is handed rows. -/
import Derived.Test.YtnpakjdgcmbcnaaEvX
namespace Go.Proofs.Ytnpakjdgcmbcnaa
open Go.RowKit
open Wir Evn
attribute [local go_sem] na_wints na_wlongs na_wcount na_wtext mt_wints mt_wlongs mt_wcount mt_wtext

theorem pairs_append (a b : List (Int × Int)) : pairs (a ++ b) = pairs a ++ pairs b := by simp [pairs]
theorem pairs_len : ∀ (l : List (Int × Int)), (pairs l).length = 2 * l.length
  | [] => rfl
  | x :: l => by
    have := pairs_len l
    simp only [pairs, List.flatMap_cons, List.length_append, List.length_cons, List.length_nil] at *
    omega
theorem pairs_get : ∀ (l : List (Int × Int)) (k : Nat), (pairs l).getD (k * 2) 0 = (l.getD k (0, 0)).1 ∧ (pairs l).getD (k * 2 + 1) 0 = (l.getD k (0, 0)).2
  | [], k => by simp [pairs]
  | x :: l, 0 => by simp [pairs]
  | x :: l, k + 1 => by
    have h := pairs_get l k
    have e1 : (k + 1) * 2 = k * 2 + 1 + 1 := by omega
    have e2 : pairs (x :: l) = x.1 :: x.2 :: pairs l := by simp [pairs]
    rw [e2, e1]
    simpa using h
theorem pairs_snoc (l : List (Int × Int)) (k : Nat) (h : k < l.length) : pairs (l.take (k + 1)) = pairs (l.take k) ++ [(l.getD k (0, 0)).1, (l.getD k (0, 0)).2] := by
  rw [List.take_succ_eq_append_getElem h, pairs_append, List.getD_eq_getElem?_getD, List.getElem?_eq_getElem h]
  simp [pairs]
theorem pairs_mem (l : List (Int × Int)) (k : Nat) (h : k < l.length) : (l.getD k (0, 0)).1 ∈ pairs l ∧ (l.getD k (0, 0)).2 ∈ pairs l := by
  have e := pairs_snoc l k h
  have : pairs (l.take (k + 1)) ++ pairs (l.drop (k + 1)) = pairs l := by rw [← pairs_append, List.take_append_drop]
  rw [← this, e]
  simp
theorem pairs_take_mem (l : List (Int × Int)) (k : Nat) : ∀ x ∈ pairs (l.take k), x ∈ pairs l := by
  intro x hx
  have : pairs (l.take k) ++ pairs (l.drop k) = pairs l := by rw [← pairs_append, List.take_append_drop]
  rw [← this]
  exact List.mem_append_left _ hx
/-- A slice of pairs reads as l. -/
def PRow (w : World) (a : Option Addr) (n c : Nat) (l : List (Int × Int)) : Prop := Row w w.heap.size a n c 2 (intsC (pairs l)) ∧ l.length = n
theorem PRow.cell {w : World} {a : Option Addr} {n c : Nat} {l : List (Int × Int)} (h : PRow w a n c l) (hn : 0 < n) : ∃ b o, a = some ⟨b, o, none⟩ ∧ b < w.heap.size ∧ ∀ k, k < n → w.cell? ⟨b, o + k * 2, none⟩ = some (.int .i64 (l.getD k (0, 0)).1) ∧ w.cell? ⟨b, o + k * 2 + 1, none⟩ = some (.int .i64 (l.getD k (0, 0)).2) := by
  obtain ⟨b, o, e, hb, hc⟩ := h.1.at_ hn
  refine ⟨b, o, e, hb, fun k hk => ?_⟩
  have h1 := hc (k * 2) (by omega)
  have h2 := hc (k * 2 + 1) (by omega)
  simp only [intsC] at h1 h2
  rw [(pairs_get l k).1] at h1
  rw [(pairs_get l k).2] at h2
  exact ⟨h1, by rw [Nat.add_assoc]; exact h2⟩
theorem PRow.on {w w' : World} {a : Option Addr} {n c : Nat} {l : List (Int × Int)} (h : PRow w a n c l) (hb : Below w.heap.size w w') : PRow w' a n c l := ⟨(h.1.below hb (Nat.le_refl _)).more hb.size, h.2⟩
set_option linter.unusedSimpArgs false in
set_option maxRecDepth 100000 in
set_option maxHeartbeats 6400000 in
theorem wrowsB_any {T : TypeId} {w0 w : World} {p q b j : Nat} {bs : List Nat} {O : Nat → Prop} {a : Option Addr} {n c : Nat} {l : List (Int × Int)} (h : WMv T w0 p bs O w) (hq : w0.cell? ⟨q, 0, none⟩ = some (.iface 73 (.pointer (some ⟨p, 0, none⟩)))) (hqO : ¬ O q)
    (hj : w0.cell? ⟨b, j, none⟩ = some (.slice a n c)) (hb : ¬ O b) (hO : ∀ k, O k → k < w0.heap.size) (hl : PRow w0 a n c l) (hfar : 0 < n → ∀ k o, a = some ⟨k, o, none⟩ → ¬ O k) (hn : n ≤ 100) (hr : All64 (pairs l)) (hlen : bs.length ≤ 10000) :
    Calls Try.prog 53 #[.iface 73 (.pointer (some ⟨p, 0, none⟩)), .pointer (some ⟨b, j, none⟩), .int .i64 8, .func (.func 54) #[] #[.pointer (some ⟨q, 0, none⟩)]] w fun e w' =>
      e = .returned (.tuple #[]) ∧ WMv T w0 p (bs ++ nb ((n : Int) :: pairs l)) O w' := by
  have hn64 : I64 (n : Int) := ⟨by omega, by omega⟩
  have l0 := nb_len [(n : Int)] (by intro x hx; simp at hx; subst hx; exact hn64)
  simp only [List.length_cons, List.length_nil] at l0
  have k0 := h.cell hj hb
  have HN := Lib.hid hn64
  have H := Lib.hid h
  have HJ : Hid (∀ w1 bs1, WMv T w0 p bs1 O w1 → w1.cell? ⟨b, j, none⟩ = some (.slice a n c)) := fun w1 bs1 k => k.cell hj hb
  have HF := Lib.hid (And.intro hq (And.intro hqO (And.intro hO (And.intro hl (And.intro hfar hr)))))
  clear h hq hqO hj hb hO hl hfar hr hn64
  go_enter Try.func53, Try.ntmps53
  go_wp2_with fail
  refine wp_region_held_drew (S := fun x => x.cell? ⟨b, j, none⟩ = some (.slice a n c)) (by kernel_rfl) k0 (fun hHeld => ?_)
  refine wpAnyH_take (i := 0) (v := ?_) rfl (by kernel_rfl) (by kernel_rfl) (by kernel_rfl) (fun _ _ _ h => h) (Or.inl ⟨by rfl, ?_⟩) (by assumption) ?_
  rotate_left
  · intro w hSw
    (try dsimp only at hSw)
    go_simp
    all_goals with_reducible rfl
  try simp only [Act.put, List.getElem_toArray, List.getElem_cons_succ, List.getElem_cons_zero, List.setIfInBounds_toArray, List.set_cons_zero, List.set_cons_succ]
  refine wpAnyH_take (i := 1) (v := ?_) rfl (by kernel_rfl) (by kernel_rfl) (by kernel_rfl) (fun _ _ _ h => h) (Or.inl ⟨by rfl, ?_⟩) (by assumption) ?_
  rotate_left
  · intro w hSw
    (try dsimp only at hSw)
    go_simp
    all_goals with_reducible rfl
  try simp only [Act.put, List.getElem_toArray, List.getElem_cons_succ, List.getElem_cons_zero, List.setIfInBounds_toArray, List.set_cons_zero, List.set_cons_succ]
  refine wpAnyH_take (i := 2) (v := ?_) rfl (by kernel_rfl) (by kernel_rfl) (by kernel_rfl) (fun _ _ _ h => h) (Or.inl ⟨by rfl, ?_⟩) (by assumption) ?_
  rotate_left
  · intro w hSw
    (try dsimp only at hSw)
    go_simp
    all_goals with_reducible rfl
  try simp only [Act.put, List.getElem_toArray, List.getElem_cons_succ, List.getElem_cons_zero, List.setIfInBounds_toArray, List.set_cons_zero, List.set_cons_succ]
  refine wpAnyH_take (i := 3) (v := ?_) rfl (by kernel_rfl) (by kernel_rfl) (by kernel_rfl) (fun _ _ _ h => h) (Or.inl ⟨by rfl, ?_⟩) (by assumption) ?_
  rotate_left
  · intro w hSw
    (try dsimp only at hSw)
    go_simp
    all_goals with_reducible rfl
  try simp only [Act.put, List.getElem_toArray, List.getElem_cons_succ, List.getElem_cons_zero, List.setIfInBounds_toArray, List.set_cons_zero, List.set_cons_succ]
  refine wpAnyH_take (i := 4) (v := ?_) rfl (by kernel_rfl) (by kernel_rfl) (by kernel_rfl) (fun _ _ _ h => h) (Or.inl ⟨by rfl, ?_⟩) (by assumption) ?_
  rotate_left
  · intro w hSw
    (try dsimp only at hSw)
    go_simp
    all_goals with_reducible rfl
  try simp only [Act.put, List.getElem_toArray, List.getElem_cons_succ, List.getElem_cons_zero, List.setIfInBounds_toArray, List.set_cons_zero, List.set_cons_succ]
  refine wpAnyH_take (i := 5) (v := ?_) rfl (by kernel_rfl) (by kernel_rfl) (by kernel_rfl) (fun _ _ _ h => h) (Or.inl ⟨by rfl, ?_⟩) (by assumption) ?_
  rotate_left
  · intro w hSw
    (try dsimp only at hSw)
    go_simp
    all_goals with_reducible rfl
  try simp only [Act.put, List.getElem_toArray, List.getElem_cons_succ, List.getElem_cons_zero, List.setIfInBounds_toArray, List.set_cons_zero, List.set_cons_succ]
  refine wpAnyH_take (i := 6) (v := ?_) rfl (by kernel_rfl) (by kernel_rfl) (by kernel_rfl) (fun _ _ _ h => h) (Or.inl ⟨by rfl, ?_⟩) (by assumption) ?_
  rotate_left
  · intro w hSw
    (try dsimp only at hSw)
    go_simp
    all_goals with_reducible rfl
  try simp only [Act.put, List.getElem_toArray, List.getElem_cons_succ, List.getElem_cons_zero, List.setIfInBounds_toArray, List.set_cons_zero, List.set_cons_succ]
  refine wpAnyH_take (i := 7) (v := ?_) rfl (by kernel_rfl) (by kernel_rfl) (by kernel_rfl) (fun _ _ _ h => h) (Or.inl ⟨by rfl, ?_⟩) (by assumption) ?_
  rotate_left
  · intro w hSw
    (try dsimp only at hSw)
    go_simp
    all_goals with_reducible rfl
  try simp only [Act.put, List.getElem_toArray, List.getElem_cons_succ, List.getElem_cons_zero, List.setIfInBounds_toArray, List.set_cons_zero, List.set_cons_succ]
  refine wpAnyH_take (i := 8) (v := ?_) rfl (by kernel_rfl) (by kernel_rfl) (by kernel_rfl) (fun _ _ _ h => h) (Or.inl ⟨by rfl, ?_⟩) (by assumption) ?_
  rotate_left
  · intro w hSw
    (try dsimp only at hSw)
    go_simp
    all_goals with_reducible rfl
  try simp only [Act.put, List.getElem_toArray, List.getElem_cons_succ, List.getElem_cons_zero, List.setIfInBounds_toArray, List.set_cons_zero, List.set_cons_succ]
  refine wpAnyH_ready (rs := [9]) (by kernel_rfl) (by simp) ?_
  refine AllReadyH.cons rfl (fun K hK => ?_) AllReadyH.nil
  rw [if_pos (by rfl)]
  go_simp
  go_at_call 99
  refine (wcount_new H.out.drew (n : Int) 8 HN.out (by omega)).mono ?_
  rintro e w1 ⟨rfl, h1⟩
  clear H
  have H := Lib.hid h1
  clear h1
  refine hK.out _ _ ?_ (fun hHeld => ?_)
  · exact (HJ.out _ _ H.out)
  clear hK K
  try simp only [Act.put, List.getElem_toArray, List.getElem_cons_succ, List.getElem_cons_zero, List.setIfInBounds_toArray, List.set_cons_zero, List.set_cons_succ]
  refine wpAnyH_take (i := 10) (v := ?_) rfl (by kernel_rfl) (by kernel_rfl) (by kernel_rfl) (fun _ _ _ h => h) (Or.inl ⟨by rfl, ?_⟩) (by assumption) ?_
  rotate_left
  · intro w hSw
    (try dsimp only at hSw)
    go_simp
    all_goals with_reducible rfl
  try simp only [Act.put, List.getElem_toArray, List.getElem_cons_succ, List.getElem_cons_zero, List.setIfInBounds_toArray, List.set_cons_zero, List.set_cons_succ]
  refine wpAnyH_done (by kernel_rfl) ?_ _
  clear hHeld
  have k1 := HJ.out _ _ H.out
  clear k0
  have HL := Lib.hid l0
  go_wp2_with fail
  go_loopw [31] (fun i wx => ∃ k : Nat, k ≤ n ∧ i = .int .i64 (k : Int) ∧ WMv T w0 p (bs ++ nb ((n : Int) :: pairs (l.take k))) O wx) (fun i _ => n - (intOf i).toNat)
  case atStart => exact ⟨0, Nat.zero_le _, rfl, by simpa [pairs] using H.out⟩
  case round =>
    obtain ⟨k, hk, rfl, hm⟩ := hrel
    clear k1
    have k1 := HJ.out _ _ hm
    by_cases hlt : k < n
    · have hlt' : (k : Int) < (n : Int) := by omega
      have HLT := Lib.hid (And.intro hk hlt)
      obtain ⟨hq, hqO, hO, hl, hfar, hr⟩ := HF.out
      obtain ⟨b2, o2, rfl, hb2, hcell⟩ := hl.cell (by omega)
      have hk' : k < l.length := by have := hl.2; omega
      have hxy : All64 [(l.getD k (0, 0)).1, (l.getD k (0, 0)).2] := fun z hz => by
        have := pairs_mem l k hk'
        simp only [List.mem_cons, List.not_mem_nil, or_false] at hz
        rcases hz with rfl | rfl
        · exact hr _ this.1
        · exact hr _ this.2
      have hl2 : (bs ++ nb ((n : Int) :: pairs (l.take k))).length ≤ 100000 := by
        have h1 := nb_len (pairs (l.take k)) (fun y hy => hr y (pairs_take_mem l k y hy))
        have h2 := List.length_take_le k l
        have h3 := HL.out
        rw [pairs_len] at h1
        rw [nb_cons, List.length_append, List.length_append]
        simp only [nb, List.flatMap_cons, List.flatMap_nil, List.append_nil] at h3
        omega
      have C := Lib.hid (wrow1_any hm hq hqO (hcell k hlt).1 (hcell k hlt).2 (hfar (by omega) b2 o2 rfl) hO hb2 hxy hl2)
      have HZ := Lib.hid (pairs_snoc l k hk')
      clear hq hqO hO hl hfar hr hcell hxy hl2 hm H
      go_wp2_with fail
      refine C.out.mono ?_
      rintro e w2 ⟨rfl, h2⟩
      have H2 := Lib.hid h2
      clear h2 C
      go_wp2
      go_roundw
      case rel =>
        refine ⟨k + 1, by have := HLT.out; omega, by go_num, ?_⟩
        have h9 := H2.out
        rw [HZ.out]
        rw [List.append_assoc, ← nb_append] at h9
        exact h9
      case measure => have := HLT.out; simp [intOf]; omega
    · have hlt' : ¬ (k : Int) < (n : Int) := by omega
      have ek : k = n := by omega
      subst ek
      have HB := Lib.hid hm
      clear hm
      go_wp2
      go_end0
      refine ⟨rfl, ?_⟩
      have h9 := HB.out
      rwa [List.take_of_length_le (by have := HF.out.2.2.2.1.2; omega)] at h9
set_option linter.unusedSimpArgs false in
set_option maxRecDepth 100000 in
set_option maxHeartbeats 6400000 in
theorem wrowsS_any {T : TypeId} {w0 w : World} {p q b j : Nat} {bs : List Nat} {O : Nat → Prop} {a : Option Addr} {n c : Nat} {l : List (Int × Int)} (h : WMv T w0 p bs O w) (hq : w0.cell? ⟨q, 0, none⟩ = some (.iface 73 (.pointer (some ⟨p, 0, none⟩)))) (hqO : ¬ O q)
    (hj : w0.cell? ⟨b, j, none⟩ = some (.slice a n c)) (hb : ¬ O b) (hO : ∀ k, O k → k < w0.heap.size) (hl : PRow w0 a n c l) (hfar : 0 < n → ∀ k o, a = some ⟨k, o, none⟩ → ¬ O k) (hn : n ≤ 100) (hr : All64 (pairs l)) (hlen : bs.length ≤ 10000) :
    Calls Try.prog 55 #[.iface 73 (.pointer (some ⟨p, 0, none⟩)), .pointer (some ⟨b, j, none⟩), .int .i64 8, .func (.func 56) #[] #[.pointer (some ⟨q, 0, none⟩)]] w fun e w' =>
      e = .returned (.tuple #[]) ∧ WMv T w0 p (bs ++ nb ((n : Int) :: pairs l)) O w' := by
  have hn64 : I64 (n : Int) := ⟨by omega, by omega⟩
  have l0 := nb_len [(n : Int)] (by intro x hx; simp at hx; subst hx; exact hn64)
  simp only [List.length_cons, List.length_nil] at l0
  have k0 := h.cell hj hb
  have HN := Lib.hid hn64
  have H := Lib.hid h
  have HJ : Hid (∀ w1 bs1, WMv T w0 p bs1 O w1 → w1.cell? ⟨b, j, none⟩ = some (.slice a n c)) := fun w1 bs1 k => k.cell hj hb
  have HF := Lib.hid (And.intro hq (And.intro hqO (And.intro hO (And.intro hl (And.intro hfar hr)))))
  clear h hq hqO hj hb hO hl hfar hr hn64
  go_enter Try.func55, Try.ntmps55
  go_wp2_with fail
  refine wp_region_held_drew (S := fun x => x.cell? ⟨b, j, none⟩ = some (.slice a n c)) (by kernel_rfl) k0 (fun hHeld => ?_)
  refine wpAnyH_take (i := 0) (v := ?_) rfl (by kernel_rfl) (by kernel_rfl) (by kernel_rfl) (fun _ _ _ h => h) (Or.inl ⟨by rfl, ?_⟩) (by assumption) ?_
  rotate_left
  · intro w hSw
    (try dsimp only at hSw)
    go_simp
    all_goals with_reducible rfl
  try simp only [Act.put, List.getElem_toArray, List.getElem_cons_succ, List.getElem_cons_zero, List.setIfInBounds_toArray, List.set_cons_zero, List.set_cons_succ]
  refine wpAnyH_take (i := 1) (v := ?_) rfl (by kernel_rfl) (by kernel_rfl) (by kernel_rfl) (fun _ _ _ h => h) (Or.inl ⟨by rfl, ?_⟩) (by assumption) ?_
  rotate_left
  · intro w hSw
    (try dsimp only at hSw)
    go_simp
    all_goals with_reducible rfl
  try simp only [Act.put, List.getElem_toArray, List.getElem_cons_succ, List.getElem_cons_zero, List.setIfInBounds_toArray, List.set_cons_zero, List.set_cons_succ]
  refine wpAnyH_take (i := 2) (v := ?_) rfl (by kernel_rfl) (by kernel_rfl) (by kernel_rfl) (fun _ _ _ h => h) (Or.inl ⟨by rfl, ?_⟩) (by assumption) ?_
  rotate_left
  · intro w hSw
    (try dsimp only at hSw)
    go_simp
    all_goals with_reducible rfl
  try simp only [Act.put, List.getElem_toArray, List.getElem_cons_succ, List.getElem_cons_zero, List.setIfInBounds_toArray, List.set_cons_zero, List.set_cons_succ]
  refine wpAnyH_take (i := 3) (v := ?_) rfl (by kernel_rfl) (by kernel_rfl) (by kernel_rfl) (fun _ _ _ h => h) (Or.inl ⟨by rfl, ?_⟩) (by assumption) ?_
  rotate_left
  · intro w hSw
    (try dsimp only at hSw)
    go_simp
    all_goals with_reducible rfl
  try simp only [Act.put, List.getElem_toArray, List.getElem_cons_succ, List.getElem_cons_zero, List.setIfInBounds_toArray, List.set_cons_zero, List.set_cons_succ]
  refine wpAnyH_take (i := 4) (v := ?_) rfl (by kernel_rfl) (by kernel_rfl) (by kernel_rfl) (fun _ _ _ h => h) (Or.inl ⟨by rfl, ?_⟩) (by assumption) ?_
  rotate_left
  · intro w hSw
    (try dsimp only at hSw)
    go_simp
    all_goals with_reducible rfl
  try simp only [Act.put, List.getElem_toArray, List.getElem_cons_succ, List.getElem_cons_zero, List.setIfInBounds_toArray, List.set_cons_zero, List.set_cons_succ]
  refine wpAnyH_take (i := 5) (v := ?_) rfl (by kernel_rfl) (by kernel_rfl) (by kernel_rfl) (fun _ _ _ h => h) (Or.inl ⟨by rfl, ?_⟩) (by assumption) ?_
  rotate_left
  · intro w hSw
    (try dsimp only at hSw)
    go_simp
    all_goals with_reducible rfl
  try simp only [Act.put, List.getElem_toArray, List.getElem_cons_succ, List.getElem_cons_zero, List.setIfInBounds_toArray, List.set_cons_zero, List.set_cons_succ]
  refine wpAnyH_take (i := 6) (v := ?_) rfl (by kernel_rfl) (by kernel_rfl) (by kernel_rfl) (fun _ _ _ h => h) (Or.inl ⟨by rfl, ?_⟩) (by assumption) ?_
  rotate_left
  · intro w hSw
    (try dsimp only at hSw)
    go_simp
    all_goals with_reducible rfl
  try simp only [Act.put, List.getElem_toArray, List.getElem_cons_succ, List.getElem_cons_zero, List.setIfInBounds_toArray, List.set_cons_zero, List.set_cons_succ]
  refine wpAnyH_take (i := 7) (v := ?_) rfl (by kernel_rfl) (by kernel_rfl) (by kernel_rfl) (fun _ _ _ h => h) (Or.inl ⟨by rfl, ?_⟩) (by assumption) ?_
  rotate_left
  · intro w hSw
    (try dsimp only at hSw)
    go_simp
    all_goals with_reducible rfl
  try simp only [Act.put, List.getElem_toArray, List.getElem_cons_succ, List.getElem_cons_zero, List.setIfInBounds_toArray, List.set_cons_zero, List.set_cons_succ]
  refine wpAnyH_take (i := 8) (v := ?_) rfl (by kernel_rfl) (by kernel_rfl) (by kernel_rfl) (fun _ _ _ h => h) (Or.inl ⟨by rfl, ?_⟩) (by assumption) ?_
  rotate_left
  · intro w hSw
    (try dsimp only at hSw)
    go_simp
    all_goals with_reducible rfl
  try simp only [Act.put, List.getElem_toArray, List.getElem_cons_succ, List.getElem_cons_zero, List.setIfInBounds_toArray, List.set_cons_zero, List.set_cons_succ]
  refine wpAnyH_ready (rs := [9]) (by kernel_rfl) (by simp) ?_
  refine AllReadyH.cons rfl (fun K hK => ?_) AllReadyH.nil
  rw [if_pos (by rfl)]
  go_simp
  go_at_call 99
  refine (wcount_new H.out.drew (n : Int) 8 HN.out (by omega)).mono ?_
  rintro e w1 ⟨rfl, h1⟩
  clear H
  have H := Lib.hid h1
  clear h1
  refine hK.out _ _ ?_ (fun hHeld => ?_)
  · exact (HJ.out _ _ H.out)
  clear hK K
  try simp only [Act.put, List.getElem_toArray, List.getElem_cons_succ, List.getElem_cons_zero, List.setIfInBounds_toArray, List.set_cons_zero, List.set_cons_succ]
  refine wpAnyH_take (i := 10) (v := ?_) rfl (by kernel_rfl) (by kernel_rfl) (by kernel_rfl) (fun _ _ _ h => h) (Or.inl ⟨by rfl, ?_⟩) (by assumption) ?_
  rotate_left
  · intro w hSw
    (try dsimp only at hSw)
    go_simp
    all_goals with_reducible rfl
  try simp only [Act.put, List.getElem_toArray, List.getElem_cons_succ, List.getElem_cons_zero, List.setIfInBounds_toArray, List.set_cons_zero, List.set_cons_succ]
  refine wpAnyH_done (by kernel_rfl) ?_ _
  clear hHeld
  have k1 := HJ.out _ _ H.out
  clear k0
  have HL := Lib.hid l0
  go_wp2_with fail
  go_loopw [31] (fun i wx => ∃ k : Nat, k ≤ n ∧ i = .int .i64 (k : Int) ∧ WMv T w0 p (bs ++ nb ((n : Int) :: pairs (l.take k))) O wx) (fun i _ => n - (intOf i).toNat)
  case atStart => exact ⟨0, Nat.zero_le _, rfl, by simpa [pairs] using H.out⟩
  case round =>
    obtain ⟨k, hk, rfl, hm⟩ := hrel
    clear k1
    have k1 := HJ.out _ _ hm
    by_cases hlt : k < n
    · have hlt' : (k : Int) < (n : Int) := by omega
      have HLT := Lib.hid (And.intro hk hlt)
      obtain ⟨hq, hqO, hO, hl, hfar, hr⟩ := HF.out
      obtain ⟨b2, o2, rfl, hb2, hcell⟩ := hl.cell (by omega)
      have hk' : k < l.length := by have := hl.2; omega
      have hxy : All64 [(l.getD k (0, 0)).1, (l.getD k (0, 0)).2] := fun z hz => by
        have := pairs_mem l k hk'
        simp only [List.mem_cons, List.not_mem_nil, or_false] at hz
        rcases hz with rfl | rfl
        · exact hr _ this.1
        · exact hr _ this.2
      have hl2 : (bs ++ nb ((n : Int) :: pairs (l.take k))).length ≤ 100000 := by
        have h1 := nb_len (pairs (l.take k)) (fun y hy => hr y (pairs_take_mem l k y hy))
        have h2 := List.length_take_le k l
        have h3 := HL.out
        rw [pairs_len] at h1
        rw [nb_cons, List.length_append, List.length_append]
        simp only [nb, List.flatMap_cons, List.flatMap_nil, List.append_nil] at h3
        omega
      have C := Lib.hid (wrow2_any hm hq hqO (hcell k hlt).1 (hcell k hlt).2 (hfar (by omega) b2 o2 rfl) hO hb2 hxy hl2)
      have HZ := Lib.hid (pairs_snoc l k hk')
      clear hq hqO hO hl hfar hr hcell hxy hl2 hm H
      go_wp2_with fail
      refine C.out.mono ?_
      rintro e w2 ⟨rfl, h2⟩
      have H2 := Lib.hid h2
      clear h2 C
      go_wp2
      go_roundw
      case rel =>
        refine ⟨k + 1, by have := HLT.out; omega, by go_num, ?_⟩
        have h9 := H2.out
        rw [HZ.out]
        rw [List.append_assoc, ← nb_append] at h9
        exact h9
      case measure => have := HLT.out; simp [intOf]; omega
    · have hlt' : ¬ (k : Int) < (n : Int) := by omega
      have ek : k = n := by omega
      subst ek
      have HB := Lib.hid hm
      clear hm
      go_wp2
      go_end0
      refine ⟨rfl, ?_⟩
      have h9 := HB.out
      rwa [List.take_of_length_le (by have := HF.out.2.2.2.1.2; omega)] at h9
end Go.Proofs.Ytnpakjdgcmbcnaa
