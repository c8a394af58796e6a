/- Contracts of the program's frame: Put. -/
import Derived.Test.YtcmgefccihehkaaFrD
import Derived.Test.YtcmgefccihehkaaSumF
namespace Go.Proofs.Ytcmgefccihehkaa
open Go.RowKit
open Crc Frm

theorem nums_row {w : World} {t : TypeId} {g n : Nat} {l : Array Value} {fr : Nat × Nat} {ms : List (Nat × Nat)} (h : w.heap[g]? = some (.cells l t fr)) (hl : ∀ j, j < n * 2 → l[j]? = some (numCell ms j)) (hm : n ≤ maxLen) :
    Row w w.heap.size (some ⟨g, 0, none⟩) n n 2 (numCell ms) := Row.new h hl hm

set_option maxHeartbeats 1600000 in
theorem put_any (f : Fr) (a : Option Addr) (cap : Nat) (w : World) (hs : Sl w w.heap.size a f.body.length cap f.body) :
    Calls Try.prog 11 #[.agg #[.int .i64 f.ty, .int .i64 f.seq, .slice a f.body.length cap]] w fun e w' => ∃ v, e = .returned v ∧ OwnB w' w.heap.size 5 v (put f) ∧ Below w.heap.size w w' := by
  have hB0 : ∀ o, Below w.heap.size w (w.alloc o) := fun o => (Below.refl _ _).alloc (Nat.le_refl _) o
  by_cases hr : f.right
  · have hp : put f = raw f := by unfold put; rw [if_pos hr]
    rw [hp]
    obtain ⟨h1, h2, h3, h4, h5⟩ := id hr
    obtain ⟨t, ht⟩ := Int.eq_ofNat_of_zero_le (show 0 ≤ f.ty by omega)
    obtain ⟨s, hsq⟩ := Int.eq_ofNat_of_zero_le h3
    have R := Lib.hid (right_of f t s f.body.length ht hsq rfl a cap)
    rw [decide_eq_true hr] at R
    rw [ht, hsq]
    have Hraw : Hid (raw f = wrOf [(2, f.body.length), (1, t), (4, s)] ++ f.body ++ wrOf [(4, more 0 (wrOf [(2, f.body.length), (1, t), (4, s)] ++ f.body))]) := by
      have e1 : f.ty.toNat = t := by rw [ht]; rfl
      have e2 : f.seq.toNat = s := by rw [hsq]; rfl
      show _ = _
      simp [raw, sm, hd, wrOf, e1, e2]
    have ht16 : t ≤ 15 := by omega
    have hs30 : s ≤ 1073741824 := by omega
    clear h1 h2 h3 h4 ht hsq hp
    obtain ⟨body, hbody⟩ : ∃ b, b = f.body := ⟨_, rfl⟩
    rw [← hbody] at hs Hraw R h5 ⊢
    obtain ⟨len, hlen⟩ : ∃ l, l = body.length := ⟨_, rfl⟩
    rw [← hlen] at hs Hraw R h5 ⊢
    have Hlen := Lib.hid hlen
    clear hbody hlen
    obtain ⟨i8, hi8, hz0, hz1, hz2⟩ := info_parts info_u8
    go_enter Try.func11, Try.ntmps11
    go_wp2_with fail
    refine (R.out _).mono ?_
    rintro e w1 ⟨rfl, hb1⟩
    have hx1 := (hb1.block w.heap.size (by simp)).trans (heap_alloc_new _ _)
    have hB1 := (hB0 (.cells #[.int .i64 (t : Int), .int .i64 (s : Int), .slice a len cap] 24)).trans (hb1.mono (by simp))
    have hz1' := lt_of_heap hx1
    have k0 := (cell_of_row w1 w.heap.size 0 _ _ _ hx1).trans rfl
    have k1 := (cell_of_row w1 w.heap.size 1 _ _ _ hx1).trans rfl
    have k2 := (cell_of_row w1 w.heap.size 2 _ _ _ hx1).trans rfl
    have Hx := Lib.hid (And.intro hx1 hB1)
    clear hx1 hB1 hb1
    go_wp2_with (at_make; refine wpList_make_own _ rfl (.const (.int .i64 0)) (.tmp 11) 22 rfl (w.heap.size + 1) 5 i8 (.int .u8 0) 1 Try.underlying22 hi8 hz0 hz1 .i64 .i64 _ (len + 11) rfl rfl (by omega) (by rw [hz2]; omega) (by unfold maxLen; omega) (by omega) ?_; intro w3 hown hg; have m0 := hg.cell k0 (by simp); have m1 := hg.cell k1 (by simp); have m2 := hg.cell k2 (by simp))
    have hx3 := (hg.block w.heap.size hz1' (by simp)).trans Hx.out.1
    have hB3 := Hx.out.2.grown hg Hx.out.2.size (fun k hk => by cases hk)
    have ho3 : OwnB w3 (w.heap.size + 1) 5 (.slice (some ⟨w1.heap.size, 0, none⟩) 0 (len + 11)) [] := hown
    have hb3 := ho3.at_base (b := w1.heap.size) rfl
    have K3 := Lib.hid (write_any (w.heap.size + 1) _ [] [(2, len), (1, t), (4, s)] 3 w3.heap.size 3 (w3.alloc (.cells #[.int .i64 2, .int .i64 (len : Int), .int .i64 1, .int .i64 (t : Int), .int .i64 4, .int .i64 (s : Int)] 47)) (ho3.alloc _) (by simp; omega) rfl (by decide)
      (nums_row (heap_alloc_new _ _) (fun j hj => by match j, hj with | 0, _ => rfl | 1, _ => rfl | 2, _ => rfl | 3, _ => rfl | 4, _ => rfl | 5, _ => rfl) (by decide)) (by simp [Value.ownBlock]; omega) (by simp; omega) (by simp))
    have H3 := Lib.hid (And.intro hx3 hB3)
    clear hx3 hB3 Hx hown hg ho3 k0 k1 k2
    refine (K3.out).mono ?_
    rintro e w4 ⟨v4, rfl, ho4, hg4, hat4⟩
    have hx4 := (hg4.block w.heap.size (by have := lt_of_heap H3.out.1; simp; omega) (by simp [Value.ownBlock]; omega)).trans ((heap_alloc_old _ _ (lt_of_heap H3.out.1)).trans H3.out.1)
    have hB4 : Below w.heap.size w w4 := (H3.out.2.alloc H3.out.2.size _).grown hg4 (by have := H3.out.2.size; simp; omega) (fun k hk => by simp [Value.ownBlock] at hk; omega)
    have n2 := (cell_of_row w4 w.heap.size 2 _ _ _ hx4).trans rfl
    have hw9 : (wrOf [(2, len), (1, t), (4, s)]).length = 7 := by simp [wrOf, be_len]
    have hbw : ∀ c ∈ wrOf [(2, len), (1, t), (4, s)], c < 256 := wrOf_byte _
    rw [List.nil_append] at ho4
    generalize wrOf [(2, len), (1, t), (4, s)] = b4 at ho4 hw9 hbw Hraw
    have hs4 := hs.below hB4 (Nat.le_refl _)
    have H4 := Lib.hid (And.intro hx4 hB4)
    have hsz4 := lt_of_heap hx4
    clear hx4 hB4 H3 hg4 hat4 m0 m1 m2 K3
    go_wp2_with (at_builtin; refine wpList_append_sl rfl (.tmp 26) (.tmp 28) _ rfl (w.heap.size + 1) _ Try.underlying22 info_u8 v4 b4 rfl ho4 _ a len cap body rfl hs4 (by omega) (by omega) ?_; intro v5 w5 ho5 hg5 hat5)
    have hB5 : Below w.heap.size w w5 := H4.out.2.grown hg5 H4.out.2.size (fun k hk => by have := (ho4.at_base hk).1; omega)
    have hbb : ∀ c ∈ b4 ++ body, c < 256 := by
      intro c hc
      rcases List.mem_append.1 hc with h | h
      · exact hbw c h
      · exact hs.byte c h
    obtain ⟨a5, cap5, hv5, hs5⟩ := ho5.sl hbb
    have hl5 : (b4 ++ body).length = len + 7 := by rw [List.length_append]; have := Hlen.out; omega
    generalize hb5 : b4 ++ body = b5 at ho5 hv5 hs5 hl5 Hraw hbb
    rw [hl5] at hv5 hs5
    subst hv5
    have hsz5 := Nat.lt_of_lt_of_le hsz4 hg5.size
    have HB5 := Lib.hid hB5
    have H5 := Lib.hid ho5
    clear hb5 hB5 ho5 hg5 hat5 ho4 hs4 n2 H4
    go_wp2_with fail
    refine (of_any a5 (len + 7) cap5 b5 _ hs5).mono ?_
    rintro e w6 ⟨rfl, hb6⟩
    have hB6 := HB5.out.trans (hb6.mono HB5.out.size)
    have ho6 := H5.out.below hb6
    have hsz6 := Nat.lt_of_lt_of_le hsz5 hb6.size
    have hml := more_lt 0 b5
    have hwr : IntKind.i64.wrap ((more 0 b5 : Nat) : Int) = ((more 0 b5 : Nat) : Int) := by rw [IntKind.wrap_i64]; omega
    generalize more 0 b5 = m at hml hwr Hraw
    have K6 := Lib.hid (write_any (w.heap.size + 1) _ b5 [(4, m)] 1 w6.heap.size 1 (w6.alloc (.cells #[.int .i64 4, .int .i64 (m : Int)] 47)) (ho6.alloc _) (by simp; omega) rfl (by decide)
      (nums_row (heap_alloc_new _ _) (fun j hj => by match j, hj with | 0, _ => rfl | 1, _ => rfl) (by decide)) (fun h => by have := (ho6.at_base h.symm).2; omega) (by simp; omega) (by omega))
    have H6 := Lib.hid (And.intro hB6 ho6)
    clear hB6 hb6 ho6 hs5
    go_wp2_with fail
    refine K6.out.mono ?_
    rintro e w7 ⟨v7, rfl, ho7, hg7, hat7⟩
    have hB7 : Below w.heap.size w w7 := (H6.out.1.alloc H6.out.1.size _).grown hg7 (by have := H6.out.1.size; simp; omega) (fun k hk => by have := (H6.out.2.at_base hk).1; omega)
    rw [← Hraw.out] at ho7
    have H7 := Lib.hid (And.intro (ho7.mono (base' := w.heap.size) (by omega)) hB7)
    clear hB7 ho7 hg7 hat7 H6 H5 HB5
    go_wp2
    go_ret
    exact ⟨_, rfl, H7.out.1, H7.out.2⟩
  · have hp : put f = [] := by unfold put; rw [if_neg hr]
    rw [hp]
    have R := Lib.hid (right_any f a cap)
    rw [decide_eq_false hr] at R
    go_enter Try.func11, Try.ntmps11
    go_wp2_with fail
    refine (R.out _).mono ?_
    rintro e w1 ⟨rfl, hb1⟩
    have hB1 := (hB0 (.cells #[.int .i64 f.ty, .int .i64 f.seq, .slice a f.body.length cap] 24)).trans (hb1.mono (by simp))
    go_wp2
    go_ret
    exact ⟨_, rfl, OwnB.nil_ _ _ _, hB1⟩
end Go.Proofs.Ytcmgefccihehkaa
