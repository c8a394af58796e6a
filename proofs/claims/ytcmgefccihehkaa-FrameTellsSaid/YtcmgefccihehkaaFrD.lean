/- Contracts of the program's frame: write. -/
import Derived.Test.YtcmgefccihehkaaFrA
import Derived.Maps.Range
namespace Go.Proofs.Ytcmgefccihehkaa
open Go.RowKit
open Crc Frm

/-- What numbers, each in so many bytes, are written as. -/
def wrOf (ms : List (Nat × Nat)) : List Nat := ms.flatMap fun m => be m.1 m.2
def numCell (ms : List (Nat × Nat)) (j : Nat) : Value := .int .i64 (((if j % 2 = 0 then (ms.getD (j / 2) (0, 0)).1 else (ms.getD (j / 2) (0, 0)).2 : Nat)) : Int)
theorem wrOf_snoc (ms : List (Nat × Nat)) (m : Nat × Nat) : wrOf (ms ++ [m]) = wrOf ms ++ be m.1 m.2 := by simp [wrOf]
theorem be_take_succ (k n i : Nat) (h : i < k) : (be k n).take (i + 1) = (be k n).take i ++ [n / 256 ^ (k - 1 - i) % 256] := by
  have hg : ∀ (k i : Nat), i < k → (be k n)[i]? = some (n / 256 ^ (k - 1 - i) % 256) := by
    intro k
    induction k with
    | zero => intro i h; omega
    | succ k ih =>
      intro i h
      cases i with
      | zero => simp [be]
      | succ i =>
        simp only [be, List.getElem?_cons_succ]
        rw [ih i (by omega)]
        congr 4
        omega
  rw [List.take_add_one, hg k i h]
  rfl
theorem byte_at (y k : Nat) : (y : Int) / 2 ^ (8 * k) % 256 = ((y / 256 ^ k % 256 : Nat) : Int) := by
  rw [Int.natCast_emod, Int.natCast_ediv, Nat.pow_mul 2 8 k |> fun h => show ((2 : Int) ^ (8 * k)) = ((256 ^ k : Nat) : Int) from by rw [show (256 : Nat) = 2 ^ 8 from rfl, ← h]; simp]
  rfl
theorem wrOf_le : ∀ (ms : List (Nat × Nat)), (∀ m ∈ ms, m.1 ≤ 4) → (wrOf ms).length ≤ 4 * ms.length := by
  intro ms
  induction ms with
  | nil => intro _; simp [wrOf]
  | cons m ms ih =>
    intro h
    have h1 := ih (fun x hx => h x (by simp [hx]))
    have h2 := h m (by simp)
    simp only [wrOf, List.flatMap_cons, List.length_append, be_len, List.length_cons] at *
    omega
theorem wrOf_byte (ms : List (Nat × Nat)) : ∀ c ∈ wrOf ms, c < 256 := by
  intro c hc
  obtain ⟨m, _, h⟩ := List.mem_flatMap.1 hc
  exact be_byte _ _ c h
theorem own_ne {w : World} {base : Nat} {e : TypeId} {v : Value} {bs : List Nat} (h : OwnB w base e v bs) {p : Nat} {cs : Array Value} {t : TypeId} {fr : Nat × Nat} (hp : w.heap[p]? = some (.cells cs t fr)) (hne : e ≠ t) : v.ownBlock ≠ some p := by
  rcases h.2 with ⟨rfl, _⟩ | ⟨g, cap, cur, rfl, _, hh, _⟩
  · simp [Value.ownBlock]
  · intro hx
    simp [Value.ownBlock] at hx
    subst hx
    rw [hh] at hp
    injection hp with hp
    injection hp with h1 h2
    exact hne h2

set_option maxHeartbeats 1600000 in
theorem write_any (base : Nat) (v : Value) (bs : List Nat) (ms : List (Nat × Nat)) (n g cap : Nat) (w : World) (hown : OwnB w base 5 v bs) (hbase : base ≤ w.heap.size) (hn : ms.length = n) (hn9 : n ≤ 9)
    (hr : Row w w.heap.size (some ⟨g, 0, none⟩) n cap 2 (numCell ms)) (hg : some g ≠ v.ownBlock) (h4 : ∀ m ∈ ms, m.1 ≤ 4 ∧ m.2 < 4294967296) (hl : bs.length ≤ 1000000) :
    Calls Try.prog 20 #[v, .slice (some ⟨g, 0, none⟩) n cap] w fun e w' => ∃ v', e = .returned v' ∧ OwnB w' base 5 v' (bs ++ wrOf ms) ∧ w.grownBy w' v.ownBlock ∧ (v'.ownBlock = v.ownBlock ∨ ∃ b, v'.ownBlock = some b ∧ w.heap.size ≤ b) := by
  go_enter Try.func20, Try.ntmps20
  go_wp2_with fail
  go_loopw [0, 10] (fun u i wx => ∃ k : Nat, k ≤ n ∧ i = .int .i64 (k : Int) ∧ OwnB wx base 5 u (bs ++ wrOf (ms.take k)) ∧ w.grownBy wx v.ownBlock ∧ (u.ownBlock = v.ownBlock ∨ ∃ b, u.ownBlock = some b ∧ w.heap.size ≤ b)) (fun _ i _ => n - (intOf i).toNat)
  case atStart => exact ⟨0, by omega, rfl, by simpa [wrOf] using hown, World.grownBy.refl _ _, .inl rfl⟩
  case round =>
    obtain ⟨k, hk, rfl, ho, hG, hat⟩ := hrel
    by_cases hlt : k < n
    · obtain ⟨b, o, e0, hb, hc⟩ := hr.at_ (by omega)
      have e1 : b = g := by injection e0 with h; injection h with h1 h2; exact h1.symm
      have e2 : o = 0 := by injection e0 with h; injection h with h1 h2; exact h2.symm
      subst e1 e2
      have hm : ms[k]? = some ms[k] := List.getElem?_eq_getElem (by omega)
      have c1 := hG.cell (hc (k * 2) (by omega)) hg
      have c2 := hG.cell (hc (k * 2 + 1) (by omega)) hg
      rw [show numCell ms (k * 2) = .int .i64 ((ms[k].1 : Nat) : Int) from by unfold numCell; rw [if_pos (by omega), show k * 2 / 2 = k from by omega, List.getD_eq_getElem?_getD, hm]; rfl, Nat.zero_add] at c1
      rw [show numCell ms (k * 2 + 1) = .int .i64 ((ms[k].2 : Nat) : Int) from by unfold numCell; rw [if_neg (by omega), show (k * 2 + 1) / 2 = k from by omega, List.getD_eq_getElem?_getD, hm]; rfl, Nat.zero_add] at c2
      have hb4 := h4 ms[k] (List.getElem_mem _)
      have Hw : Hid (wrOf (ms.take (k + 1)) = wrOf (ms.take k) ++ be ms[k].1 ms[k].2) := by
        show _ = _
        rw [List.take_succ_eq_append_getElem (by omega), wrOf_snoc]
      generalize ms[k].1 = x at c1 hb4 Hw
      generalize ms[k].2 = y at c2 hb4 Hw
      have Ho := Lib.hid (And.intro ho (And.intro hG hat))
      clear hc ho hG hat
      go_wp2_with fail
      go_loopw [0, 16] (fun u i wx => ∃ j : Nat, j ≤ x ∧ i = .int .i64 (j : Int) ∧ OwnB wx base 5 u (bs ++ wrOf (ms.take k) ++ (be x y).take j) ∧ w.grownBy wx v.ownBlock ∧ (u.ownBlock = v.ownBlock ∨ ∃ b, u.ownBlock = some b ∧ w.heap.size ≤ b) ∧
        wx.heap[wr.heap.size]? = some (.cells #[.int .i64 (x : Int), .int .i64 (y : Int)] 47 (0, 0))) (fun _ i _ => x - (intOf i).toNat)
      case atStart => exact ⟨0, by omega, rfl, by simpa using Ho.out.1.alloc _, Ho.out.2.1.trans (World.grownBy_alloc _ _ _), Ho.out.2.2, heap_alloc_new _ _⟩
      case round =>
        obtain ⟨j, hj, rfl, ho, hG, hat, hp⟩ := hrel
        have k0 := (cell_of_row _ _ 0 _ _ _ hp).trans rfl
        have k1 := (cell_of_row _ _ 1 _ _ _ hp).trans rfl
        by_cases hlt2 : j < x
        · have hby : (y : Int) / 2 ^ (8 * (x - 1 - j)) % 256 = ((y / 256 ^ (x - 1 - j) % 256 : Nat) : Int) := byte_at y (x - 1 - j)
          have hcl : y / 256 ^ (x - 1 - j) % 256 < 256 := Nat.mod_lt _ (by decide)
          have Ht := Lib.hid (be_take_succ x y j hlt2)
          have hlb : (bs ++ wrOf (ms.take k) ++ (be x y).take j).length ≤ 1000000 + 100 := by
            have h1 := wrOf_le (ms.take k) (fun m hm => (h4 m (List.mem_of_mem_take hm)).1)
            have h2 : (ms.take k).length ≤ 9 := by rw [List.length_take]; omega
            rw [List.length_append, List.length_append, List.length_take, be_len]
            omega
          generalize y / 256 ^ (x - 1 - j) % 256 = c at hby hcl Ht
          generalize hB2 : bs ++ wrOf (ms.take k) ++ (be x y).take j = b2 at ho hlb
          have HB2 := Lib.hid hB2
          have Hp := Lib.hid (And.intro hG (And.intro hat hp))
          have hpl := lt_of_heap hp
          have hwle := hG.size
          clear hB2 hG hat hp Ho
          go_wp2_with (at_builtin; refine wpList_append_sl rfl (.tmp 19) (.tmp 30) _ rfl base _ Try.underlying22 info_u8 u0 b2 rfl (ho.alloc _) _ (some ⟨wr.heap.size, 0, none⟩) 1 1 [c] rfl (Sl.one _ _ hcl) (by simp; omega) (by simp; omega) ?_; intro v1 w3 hown1 hg1 hat1)
          obtain ⟨hG, hat, hp⟩ := Hp.out
          have hne1 := own_ne (ho.alloc (.cells #[.int .u8 (c : Int)] 5)) ((heap_alloc_old _ _ hpl).trans hp) (by decide)
          have hp3 := (hg1.block _ (by simp; omega) (Ne.symm hne1)).trans ((heap_alloc_old _ _ hpl).trans hp)
          have hG3 : w.grownBy w3 v.ownBlock := (hG.trans (World.grownBy_alloc _ _ _)).andThen hg1 (fun q hq => by
            rcases hat with h | ⟨b', h, hb'⟩
            · right; rw [← h]; exact hq
            · rw [h] at hq; injection hq with hq; left; omega)
          have hat3 : v1.ownBlock = v.ownBlock ∨ ∃ b, v1.ownBlock = some b ∧ w.heap.size ≤ b := by
            rcases hat1 with h | h
            · rw [h]; exact hat
            · right; exact ⟨_, h, by simp; omega⟩
          have H3 := Lib.hid (And.intro hown1 (And.intro hG3 (And.intro hat3 hp3)))
          clear hG hat hp hne1 hp3 hG3 hat3 hown1 hg1 hat1 ho
          go_wp2
          obtain ⟨h1, h2, h3, h5⟩ := H3.out
          exact ⟨⟨j + 1, by omega, by go_num, by rw [Ht.out, ← List.append_assoc, HB2.out]; exact h1, h2, h3, h5⟩, by simp [intOf]; omega⟩
        · have hjx : j = x := by omega
          subst hjx
          rw [show (be j y).take j = be j y from List.take_of_length_le (by rw [be_len]; omega), List.append_assoc, ← Hw.out] at ho
          have H3 := Lib.hid (And.intro ho (And.intro hG hat))
          clear ho hG hat hp k0 k1
          go_wp2
          obtain ⟨h1, h2, h3⟩ := H3.out
          exact ⟨⟨k + 1, by omega, by go_num, h1, h2, h3⟩, by simp [intOf]; omega⟩
    · have hkn : k = n := by omega
      subst hkn
      rw [List.take_of_length_le (by omega)] at ho
      have H3 := Lib.hid (And.intro ho (And.intro hG hat))
      clear ho hG hat
      go_wp2
      go_ret
      obtain ⟨h1, h2, h3⟩ := H3.out
      exact ⟨_, rfl, h1, h2, h3⟩
end Go.Proofs.Ytcmgefccihehkaa
