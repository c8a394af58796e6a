/- Contracts of the program's frame: reader, read, length. -/
import Derived.Test.YtiiellclnmakpaaDoorFrA
namespace Go.Proofs.YtiiellclnmakpaaDoor
open Go.RowKit
open Crc Frm

/-- Where number j begins. -/
def offs (ns : List Nat) (j : Nat) : Nat := (ns.take j).sum
theorem offs_zero (ns : List Nat) : offs ns 0 = 0 := rfl
theorem offs_succ (ns : List Nat) (j : Nat) (h : j < ns.length) : offs ns (j + 1) = offs ns j + ns.getD j 0 := by
  unfold offs
  rw [List.take_succ_eq_append_getElem h, List.sum_append, List.getD_eq_getElem?_getD, List.getElem?_eq_getElem h]
  simp
theorem offs_le (ns : List Nat) : ∀ j, offs ns j ≤ ns.sum := by
  intro j
  unfold offs
  conv => rhs; rw [← List.take_append_drop j ns]
  rw [List.sum_append]
  omega
/-- What number j is. -/
def numAt (bs ns : List Nat) (j : Nat) : Nat := val ((bs.take (offs ns j + ns.getD j 0)).drop (offs ns j))

theorem reader_any (a : Option Addr) (len cap : Nat) (w : World) :
    Calls Tryd.prog 77 #[.slice a len cap] w fun e w' =>
      e = .returned (.func (.func 87) #[] #[.pointer (some ⟨w.heap.size, 0, none⟩), .pointer (some ⟨w.heap.size + 1, 0, none⟩)]) ∧
      w' = (w.alloc (.cells #[.slice a len cap] 22)).alloc (.cells #[.int .i64 0] 3) := by
  have hmf : ∀ (fn : Fn) (first cap : Array Value) (w : World), (Instr.makeFunc fn first cap).run Tryd.prog w = .ok (.func fn first cap) w := fun _ _ _ _ => rfl
  go_enter Tryd.func77, Tryd.ntmps77
  go_wp2
  go_ret
  exact ⟨rfl, rfl⟩

theorem info_i64 : (Tryd.prog.info? 2).map (fun i => (i.zero, i.size, i.bytes)) = some (some (.int .i64 0), 1, 8) := by kernel_rfl

set_option maxHeartbeats 800000 in
theorem read_any (a : Option Addr) (len cap : Nat) (bs : List Nat) (sa : Option Addr) (n scap : Nat) (ns : List Nat) (w : World) (hs : Sl w w.heap.size a len cap bs) (hn : ns.length = n)
    (hr : Row w w.heap.size sa n scap 1 (fun j => .int .i64 ((ns.getD j 0 : Nat) : Int))) (h4 : ∀ x ∈ ns, x ≤ 4) (hfit : ns.sum ≤ len) (hn9 : n ≤ 9) :
    Calls Tryd.prog 58 #[.slice a len cap, .slice sa n scap] w fun e w' => ∃ g, e = .returned (.slice (some ⟨g, 0, none⟩) n n) ∧ w.heap.size ≤ g ∧
      (∀ j, j < n → w'.cell? ⟨g, j, none⟩ = some (.int .i64 ((numAt bs ns j : Nat) : Int))) ∧ Below w.heap.size w w' ∧ g < w'.heap.size := by
  go_enter Tryd.func58, Tryd.ntmps58
  go_wp2_with fail
  refine (reader_any a len cap _).mono ?_
  rintro e w1 ⟨rfl, rfl⟩
  obtain ⟨i8, hi8, hz0, hz1, hz2⟩ := info_parts info_i64
  have hB1 : Below w.heap.size w ((w.alloc (.cells #[.slice a len cap] 22)).alloc (.cells #[.int .i64 0] 3)) := ((Below.refl _ _).alloc (Nat.le_refl _) _).alloc (by simp) _
  have hgb : ((w.alloc (.cells #[.slice a len cap] 22)).alloc (.cells #[.int .i64 0] 3)).heap[w.heap.size]? = some (.cells #[.slice a len cap] 22 (0, 0)) := heap_alloc2_old _ _ _
  have hga : ((w.alloc (.cells #[.slice a len cap] 22)).alloc (.cells #[.int .i64 0] 3)).heap[w.heap.size + 1]? = some (.cells #[.int .i64 0] 3 (0, 0)) := heap_alloc2_new _ _ _
  have hsz : ((w.alloc (.cells #[.slice a len cap] 22)).alloc (.cells #[.int .i64 0] 3)).heap.size = w.heap.size + 2 := by simp
  obtain ⟨w2, hw2⟩ : ∃ w2, w2 = ((w.alloc (.cells #[.slice a len cap] 22)).alloc (.cells #[.int .i64 0] 3)) := ⟨_, rfl⟩
  rw [← hw2] at hB1 hgb hga hsz
  rw [← hw2]
  clear hw2
  go_wp2_with (at_make; refine wpList_make_full _ rfl (.tmp 12) (.tmp 12) 96 rfl w2.heap.size 2 i8 (.int .i64 0) 1 Tryd.underlying96 hi8 hz0 hz1 .i64 .i64 _ _ n rfl rfl rfl rfl (by rw [hz2]; omega) (by unfold maxLen; omega) (Nat.le_refl _) ?_; intro w3 hown hg)
  have hown1 := OwnV.made rfl hown
  have hB3 : Below w2.heap.size w2 w3 := (Below.refl _ _).grown hg (Nat.le_refl _) (fun k hk => by cases hk)
  have hz3 : w2.heap.size < w3.heap.size := hown1.base_.2
  have hgb3 := (hB3.block w.heap.size (by omega)).trans hgb
  have hga3 := (hB3.block (w.heap.size + 1) (by omega)).trans hga
  have hB03 : Below w.heap.size w w3 := hB1.trans (hB3.mono hB1.size)
  clear hown hg hgb hga hB3 hB1
  rw [hsz] at hown1 hz3
  try rw [hsz]
  clear hsz
  go_loopw [7, 8, 16] (fun _ _ i wr => ∃ (k : Nat) (us : List Value), k ≤ n ∧ i = .int .i64 (k : Int) ∧ us.length = n ∧ (∀ j, j < k → us[j]? = some (.int .i64 ((numAt bs ns j : Nat) : Int))) ∧
      OwnV wr (w.heap.size + 2) 2 (.slice (some ⟨w.heap.size + 2, 0, none⟩) n n) us ∧ wr.heap[w.heap.size]? = some (.cells #[.slice a len cap] 22 (0, 0)) ∧
      wr.heap[w.heap.size + 1]? = some (.cells #[.int .i64 ((offs ns k : Nat) : Int)] 3 (0, 0)) ∧ Below w.heap.size w wr) (fun _ _ i _ => n - (intOf i).toNat)
  case atStart => exact ⟨0, _, by omega, rfl, List.length_replicate, fun j hj => by omega, hown1, hgb3, hga3, hB03⟩
  case round =>
    obtain ⟨k, us, hk, rfl, hul, huj, how, hgb, hga, hB⟩ := hrel
    clear hown1 hgb3 hga3 hB03
    by_cases hlt : k < n
    · obtain ⟨b, o, rfl, hb, hc⟩ := hr.at_ (by omega)
      have c1 := (hB.cell (p := ⟨b, o + k, none⟩) hb).trans (hc k (by omega))
      have hs' := (hs.below hB (Nat.le_refl _)).more (B' := w.heap.size + 1) (by omega)
      have hnx := h4 (ns.getD k 0) (by rw [List.getD_eq_getElem?_getD, List.getElem?_eq_getElem (by omega)]; exact List.getElem_mem _)
      have hos := offs_succ ns k (by omega)
      have hol := offs_le ns (k + 1)
      have hkc := OwnV.cell how (k := k) (List.getElem?_eq_getElem (by omega))
      have Hn : Hid (numAt bs ns k = val ((bs.take (offs ns k + ns.getD k 0)).drop (offs ns k))) := rfl
      have i1 : (k : Int) < (n : Int) := by omega
      generalize ns.getD k 0 = x at c1 hnx hos Hn
      have hfit' : offs ns k + x ≤ len := by omega
      have Hos := Lib.hid hos
      have K := Lib.hid (next_any x hnx w.heap.size (w.heap.size + 1) (by omega) a len cap bs (offs ns k) wr hgb hga hs' hfit')
      have Hr := Lib.hid (And.intro huj (And.intro how (And.intro hgb hB)))
      clear hc hos hs' huj how hgb hga
      go_wp2_with fail
      refine K.out.mono ?_
      rintro e w4 ⟨rfl, hga4, hG⟩
      obtain ⟨huj, how, hgb, hB⟩ := Hr.out
      rw [← Hn.out]
      have how4 := how.kept hG (by simp)
      have hkc4 := OwnV.cell how4 (k := k) (List.getElem?_eq_getElem (by omega))
      have hgb4 := (hG.block w.heap.size (lt_of_heap hgb) (by simp)).trans hgb
      have hB4 := grownBy_below hB hG hB.size (by omega)
      rw [← Hos.out] at hga4
      have Hr4 := Lib.hid (And.intro huj (And.intro how4 (And.intro hgb4 (And.intro hga4 hB4))))
      clear huj how hgb hB how4 hgb4 hga4 hB4 hkc Hr hG
      go_wp2
      obtain ⟨huj, how4, hgb4, hga4, hB4⟩ := Hr4.out
      refine ⟨⟨k + 1, us.set k (.int .i64 ((numAt bs ns k : Nat) : Int)), by omega, by go_num, by rw [List.length_set]; exact hul, ?_, how4.set_ k _, ?_, ?_, hB4.setCell (p := ⟨w.heap.size + 2, k, none⟩) (by show w.heap.size ≤ w.heap.size + 2; omega) _⟩, by simp [intOf]; omega⟩
      · intro j hj
        rw [List.getElem?_set]
        by_cases e : k = j
        · subst e; rw [if_pos rfl, if_pos (by omega)]
        · rw [if_neg e]; exact huj j (by omega)
      · rw [Below.heap_setCell _ _ _ _ (by simp)]; exact hgb4
      · rw [Below.heap_setCell _ _ _ _ (by simp)]; exact hga4
    · have hk' : k = n := by omega
      subst hk'
      have Hr := Lib.hid (And.intro huj (And.intro how hB))
      clear huj how hgb hga hB hr hs
      go_wp2
      go_ret
      obtain ⟨huj, how, hB⟩ := Hr.out
      exact ⟨_, rfl, by omega, fun j hj => (OwnV.cell how (huj j hj)).1, hB, how.base_.2⟩
end Go.Proofs.YtiiellclnmakpaaDoor
