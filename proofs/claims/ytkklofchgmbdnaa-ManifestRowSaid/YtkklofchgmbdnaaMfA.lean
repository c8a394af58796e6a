/- Contracts of the program's manifest: Right, size, read, write. -/
import Derived.Test.YtkklofchgmbdnaaDkS
import Derived.Test.YtkklofchgmbdnaaFrm
import Derived.Laws.BitsAllLaws
namespace Go.Proofs.Ytkklofchgmbdnaa
open Go.RowKit Go.Sort
open Crc Frm
attribute [local go_sem] Oper.semAt_some

/-- Each stands above the one ahead, and none above 2^30. -/
def upL (a : Int) : List Int → Bool
  | [] => true
  | n :: l => decide (a < n) && (decide (n ≤ 1073741824) && upL n l)
/-- May a list be so? -/
def mOk (l : List Int) : Bool := decide (1 ≤ l.length) && (decide (l.length ≤ 40) && upL (-1) l)
theorem upL_no {z x : Int} {l : List Int} (h : ¬ (z < x ∧ x ≤ 1073741824)) : upL z (x :: l) = false := by
  simp only [upL]
  by_cases h1 : z < x
  · have h2 : ¬ x ≤ 1073741824 := fun h2 => h ⟨h1, h2⟩
    simp [h2]
  · simp [h1]
theorem upL_yes {z x : Int} {l : List Int} (h1 : z < x) (h2 : x ≤ 1073741824) : upL z (x :: l) = upL x l := by simp [upL, h1, h2]

set_option linter.unusedSimpArgs false in
set_option maxRecDepth 100000 in
set_option maxHeartbeats 1600000 in
theorem mright_any (l : List Int) (a : Option Addr) (n c : Nat) (w : World) (hr : Row w w.heap.size a n c 1 (intsC l)) (hn : l.length = n) :
    Calls Try.prog 27 #[.slice a n c] w fun e w' => e = .returned (.bool (mOk l)) ∧ w = w' := by
  have hcm := hr.max
  have hle := hr.le
  unfold maxLen at hcm
  have HL : Hid (mOk l = (decide (1 ≤ n) && (decide (n ≤ 40) && upL (-1) l))) := by show _ = _; unfold mOk; rw [hn]
  have HR := Lib.hid (And.intro hr hn)
  clear hr hn
  go_enter Try.func27, Try.ntmps27
  by_cases h1 : 1 ≤ n
  · by_cases h2 : n ≤ 40
    · go_wp2_with fail
      go_loopw [3, 5, 16] (fun z _ i wr => ∃ (k : Nat) (x : Int), k ≤ n ∧ i = .int .i64 (k : Int) ∧ z = .int .i64 x ∧ upL (-1) l = upL x (l.drop k) ∧ wr = w) (fun _ _ i _ => n - (intOf i).toNat)
      case atStart => exact ⟨0, -1, Nat.zero_le _, rfl, rfl, rfl, rfl⟩
      case round =>
        obtain ⟨k, z, hk, rfl, rfl, hu, rfl⟩ := hrel
        by_cases hlt : k < n
        · obtain ⟨b, o, rfl, hb, hc⟩ := HR.out.1.at_ (by omega)
          have c0 := hc k (by omega)
          simp only [intsC, Nat.mul_one] at c0
          have hlk : k < l.length := by have := HR.out.2; omega
          have hd : l.drop k = l.getD k 0 :: l.drop (k + 1) := by rw [List.drop_eq_getElem_cons hlk, List.getD_eq_getElem?_getD, List.getElem?_eq_getElem hlk]; rfl
          rw [hd] at hu
          generalize l.getD k 0 = x at *
          have HU := Lib.hid hu
          clear hu hd hc hlk
          by_cases hx1 : z < x
          · by_cases hx2 : x ≤ 1073741824
            · go_wp2
              go_roundw
              case rel => exact ⟨k + 1, x, by omega, by go_num, rfl, HU.out.trans (upL_yes hx1 hx2), by trivial⟩
              case measure => simp [intOf]; omega
            · go_wp2
              go_ret
              exact ⟨ret_bool (by rw [HL.out, HU.out, upL_no (by omega)]; simp), rfl⟩
          · go_wp2
            go_ret
            exact ⟨ret_bool (by rw [HL.out, HU.out, upL_no (by omega)]; simp), rfl⟩
        · have HU := Lib.hid hu
          clear hu
          go_wp2
          go_ret
          refine ⟨ret_bool ?_, rfl⟩
          rw [HL.out, HU.out, List.drop_of_length_le (by have := HR.out.2; omega)]
          simp [upL, h1, h2]
    · go_wp2
      go_ret
      exact ⟨ret_bool (by rw [HL.out]; simp [h2]), rfl⟩
  · go_wp2
    go_ret
    exact ⟨ret_bool (by rw [HL.out]; simp [h1]), rfl⟩

theorem msize_any (n : Nat) (hn : n ≤ 1000000) (w : World) :
    Calls Try.prog 51 #[.int .i64 (n : Int)] w fun e w' => e = .returned (.int .i64 ((5 + 4 * n : Nat) : Int)) ∧ w = w' := by
  have w1 : IntKind.i64.wrap ((n : Int) * 4) = (n : Int) * 4 := by rw [IntKind.wrap_i64]; omega
  have w2 : IntKind.i64.wrap (1 + (n : Int) * 4) = 1 + (n : Int) * 4 := by rw [IntKind.wrap_i64]; omega
  have w3 : IntKind.i64.wrap (1 + (n : Int) * 4 + 4) = 1 + (n : Int) * 4 + 4 := by rw [IntKind.wrap_i64]; omega
  go_enter Try.func51, Try.ntmps51
  go_wp2
  go_ret
  exact ⟨ret_i64 (by omega), rfl⟩

theorem or_sum (k a b : Nat) (A B C : Nat) (hA : A = 2 ^ k * a) (hB : B = b) (hb : b < 2 ^ k) (hA2 : A < 4294967296) (hB2 : B < 4294967296) (hC : C = A + B) : bits .or .u32 (A : Int) (B : Int) = (C : Int) := by
  subst hB hC
  rw [u32_or_nat A B hA2 hB2, hA, ← Nat.two_pow_add_eq_or_of_lt hb a]
theorem be4 (y : Nat) : be 4 y = [y / 16777216 % 256, y / 65536 % 256, y / 256 % 256, y % 256] := by simp [be]
set_option linter.unusedSimpArgs false in
set_option maxRecDepth 100000 in
set_option maxHeartbeats 1600000 in
theorem mwrite_any (base : Nat) (v : Value) (bs : List Nat) (y : Nat) (w : World) (hown : OwnB w base 5 v bs) (hbase : base ≤ w.heap.size) (hy : y < 4294967296) (hl : bs.length ≤ 1000000) :
    Calls Try.prog 56 #[v, .int .u32 (y : Int)] w fun e w' => ∃ v', e = .returned v' ∧ OwnB w' base 5 v' (bs ++ be 4 y) ∧ w.grownBy w' v.ownBlock ∧ (v'.ownBlock = v.ownBlock ∨ ∃ b, v'.ownBlock = some b ∧ w.heap.size ≤ b) := by
  have y0 : (y : Int) / 16777216 = ((y / 16777216 % 256 : Nat) : Int) := by omega
  have y1 : (y : Int) / 65536 % 256 = ((y / 65536 % 256 : Nat) : Int) := by omega
  have y2 : (y : Int) / 256 % 256 = ((y / 256 % 256 : Nat) : Int) := by omega
  have y3 : (y : Int) % 256 = ((y % 256 : Nat) : Int) := by omega
  rw [be4]
  have l0 : y / 16777216 % 256 < 256 := Nat.mod_lt _ (by decide)
  have l1 : y / 65536 % 256 < 256 := Nat.mod_lt _ (by decide)
  have l2 : y / 256 % 256 < 256 := Nat.mod_lt _ (by decide)
  have l3 : y % 256 < 256 := Nat.mod_lt _ (by decide)
  generalize y / 16777216 % 256 = b0 at *
  generalize y / 65536 % 256 = b1 at *
  generalize y / 256 % 256 = b2 at *
  generalize y % 256 = b3 at *
  have HS := Lib.hid (lit_sl w [b0, b1, b2, b3] (by intro c hc; simp at hc; omega) (by simp [maxLen]))
  have HO := Lib.hid hown
  clear hown
  go_enter Try.func56, Try.ntmps56
  go_wp2_with (first
    | (at_builtin; refine wpList_append_sl rfl (.tmp 5) (.tmp 17) 31 rfl base _ Try.underlying31 info_u8 v bs rfl (HO.out.alloc _) _ (some ⟨w.heap.size, 0, none⟩) 4 4 [b0, b1, b2, b3] rfl HS.out (by omega) (by simp; omega) ?_; intro v1 w3 hown1 hg1 hat1)
    | fail)
  have H3 := Lib.hid (And.intro hown1 (And.intro hg1 hat1))
  clear hown1 hg1 hat1
  go_wp2
  go_ret
  refine ⟨v1, rfl, H3.out.1, ?_, ?_⟩
  · have := (World.grownBy_alloc w (.cells #[.int .u8 (b0 : Int), .int .u8 (b1 : Int), .int .u8 (b2 : Int), .int .u8 (b3 : Int)] 5) v.ownBlock).andThen H3.out.2.1 (fun q hq => .inr hq)
    exact this
  · rcases H3.out.2.2 with h | h
    · exact .inl h
    · exact .inr ⟨_, h, by simp⟩

set_option linter.unusedSimpArgs false in
set_option maxRecDepth 100000 in
set_option maxHeartbeats 1600000 in
theorem mread_any (a : Option Addr) (len cap : Nat) (bs : List Nat) (w : World) (hs : Sl w w.heap.size a len cap bs) (h4 : 4 ≤ len) :
    Calls Try.prog 52 #[.slice a len cap] w fun e w' => e = .returned (.int .u32 ((val (bs.take 4) : Nat) : Int)) ∧ Below w.heap.size w w' := by
  obtain ⟨b, o, rfl, hb, hc⟩ := hs.at_ (by omega)
  have hbl := hs.length
  have c0 := hc 0 (by omega)
  have c1 := hc 1 (by omega)
  have c2 := hc 2 (by omega)
  have c3 := hc 3 (by omega)
  have l0 : bs.getD 0 0 < 256 := by rw [List.getD_eq_getElem?_getD, List.getElem?_eq_getElem (by omega)]; exact hs.byte _ (List.getElem_mem _)
  have l1 : bs.getD 1 0 < 256 := by rw [List.getD_eq_getElem?_getD, List.getElem?_eq_getElem (by omega)]; exact hs.byte _ (List.getElem_mem _)
  have l2 : bs.getD 2 0 < 256 := by rw [List.getD_eq_getElem?_getD, List.getElem?_eq_getElem (by omega)]; exact hs.byte _ (List.getElem_mem _)
  have l3 : bs.getD 3 0 < 256 := by rw [List.getD_eq_getElem?_getD, List.getElem?_eq_getElem (by omega)]; exact hs.byte _ (List.getElem_mem _)
  have hv : Hid (val (bs.take 4) = bs.getD 0 0 * 16777216 + bs.getD 1 0 * 65536 + bs.getD 2 0 * 256 + bs.getD 3 0) := by
    show _ = _
    match bs, (show 4 ≤ bs.length by omega) with
    | x0 :: x1 :: x2 :: x3 :: t, _ => simp [val]; omega
  generalize bs.getD 0 0 = b0 at *
  generalize bs.getD 1 0 = b1 at *
  generalize bs.getD 2 0 = b2 at *
  generalize bs.getD 3 0 = b3 at *
  have n0 : 0 < len := by omega
  have n1 : (1 : Int) < (len : Int) := by omega
  have n2 : (2 : Int) < (len : Int) := by omega
  have n3 : (3 : Int) < (len : Int) := by omega
  have x0 : IntKind.u32.wrap (b0 : Int) = (b0 : Int) := by rw [IntKind.wrap_u32]; omega
  have x1 : IntKind.u32.wrap (b1 : Int) = (b1 : Int) := by rw [IntKind.wrap_u32]; omega
  have x2 : IntKind.u32.wrap (b2 : Int) = (b2 : Int) := by rw [IntKind.wrap_u32]; omega
  have x3 : IntKind.u32.wrap (b3 : Int) = (b3 : Int) := by rw [IntKind.wrap_u32]; omega
  obtain ⟨s0, hs0⟩ : ∃ s0, s0 = b0 * 16777216 := ⟨_, rfl⟩
  obtain ⟨s1, hs1⟩ : ∃ s1, s1 = b1 * 65536 := ⟨_, rfl⟩
  obtain ⟨s2, hs2⟩ : ∃ s2, s2 = b2 * 256 := ⟨_, rfl⟩
  obtain ⟨t1, ht1⟩ : ∃ t1, t1 = s0 + s1 := ⟨_, rfl⟩
  obtain ⟨t2, ht2⟩ : ∃ t2, t2 = t1 + s2 := ⟨_, rfl⟩
  obtain ⟨t3, ht3⟩ : ∃ t3, t3 = t2 + b3 := ⟨_, rfl⟩
  have y0 : IntKind.u32.wrap ((b0 : Int) * 16777216) = (s0 : Int) := by rw [IntKind.wrap_u32]; omega
  have y1 : IntKind.u32.wrap ((b1 : Int) * 65536) = (s1 : Int) := by rw [IntKind.wrap_u32]; omega
  have y2 : IntKind.u32.wrap ((b2 : Int) * 256) = (s2 : Int) := by rw [IntKind.wrap_u32]; omega
  have o1 : bits .or .u32 (s0 : Int) (s1 : Int) = (t1 : Int) := or_sum 24 b0 s1 s0 s1 t1 (by omega) rfl (by omega) (by omega) (by omega) ht1
  have o2 : bits .or .u32 (t1 : Int) (s2 : Int) = (t2 : Int) := or_sum 16 (b0 * 256 + b1) s2 t1 s2 t2 (by omega) rfl (by omega) (by omega) (by omega) ht2
  have o3 : bits .or .u32 (t2 : Int) (b3 : Int) = (t3 : Int) := or_sum 8 (b0 * 65536 + b1 * 256 + b2) b3 t2 b3 t3 (by omega) rfl (by omega) (by omega) (by omega) ht3
  have hvt : Hid (t3 = val (bs.take 4)) := by show _ = _; have := hv.out; omega
  clear hs0 hs1 hs2 ht1 ht2 ht3 l0 l1 l2 l3 h4
  clear hc hs hbl
  go_enter Try.func52, Try.ntmps52
  go_wp2_with fail
  refine wp_region_held_drew (S := fun x => x.cell? ⟨b, o, none⟩ = some (.int .u8 (b0 : Int)) ∧ x.cell? ⟨b, o + 1, none⟩ = some (.int .u8 (b1 : Int)) ∧ x.cell? ⟨b, o + 2, none⟩ = some (.int .u8 (b2 : Int)) ∧ x.cell? ⟨b, o + 3, none⟩ = some (.int .u8 (b3 : Int))) (by kernel_rfl) ⟨c0, c1, c2, c3⟩ (fun hHeld => ?_)
  refine wpAnyH_take (i := 0) (v := ?_) rfl (by kernel_rfl) (by kernel_rfl) (by kernel_rfl) (fun _ _ _ h => h) (Or.inl ⟨by rfl, ?_⟩) (by assumption) ?_
  rotate_left
  · intro w hSw
    (try dsimp only at hSw)
    go_simp
    all_goals with_reducible rfl
  try simp only [Act.put, List.getElem_toArray, List.getElem_cons_succ, List.getElem_cons_zero, List.setIfInBounds_toArray, List.set_cons_zero, List.set_cons_succ]
  refine wpAnyH_take (i := 1) (v := ?_) rfl (by kernel_rfl) (by kernel_rfl) (by kernel_rfl) (fun _ _ _ h => h) (Or.inl ⟨by rfl, ?_⟩) (by assumption) ?_
  rotate_left
  · intro w hSw
    (try dsimp only at hSw)
    go_simp
    all_goals with_reducible rfl
  try simp only [Act.put, List.getElem_toArray, List.getElem_cons_succ, List.getElem_cons_zero, List.setIfInBounds_toArray, List.set_cons_zero, List.set_cons_succ]
  refine wpAnyH_take (i := 2) (v := ?_) rfl (by kernel_rfl) (by kernel_rfl) (by kernel_rfl) (fun _ _ _ h => h) (Or.inl ⟨by rfl, ?_⟩) (by assumption) ?_
  rotate_left
  · intro w hSw
    (try dsimp only at hSw)
    go_simp
    all_goals with_reducible rfl
  try simp only [Act.put, List.getElem_toArray, List.getElem_cons_succ, List.getElem_cons_zero, List.setIfInBounds_toArray, List.set_cons_zero, List.set_cons_succ]
  refine wpAnyH_take (i := 3) (v := ?_) rfl (by kernel_rfl) (by kernel_rfl) (by kernel_rfl) (fun _ _ _ h => h) (Or.inl ⟨by rfl, ?_⟩) (by assumption) ?_
  rotate_left
  · intro w hSw
    (try dsimp only at hSw)
    go_simp
    all_goals with_reducible rfl
  try simp only [Act.put, List.getElem_toArray, List.getElem_cons_succ, List.getElem_cons_zero, List.setIfInBounds_toArray, List.set_cons_zero, List.set_cons_succ]
  refine wpAnyH_take (i := 4) (v := ?_) rfl (by kernel_rfl) (by kernel_rfl) (by kernel_rfl) (fun _ _ _ h => h) (Or.inl ⟨by rfl, ?_⟩) (by assumption) ?_
  rotate_left
  · intro w hSw
    (try dsimp only at hSw)
    go_simp
    all_goals with_reducible rfl
  try simp only [Act.put, List.getElem_toArray, List.getElem_cons_succ, List.getElem_cons_zero, List.setIfInBounds_toArray, List.set_cons_zero, List.set_cons_succ]
  refine wpAnyH_take (i := 5) (v := ?_) rfl (by kernel_rfl) (by kernel_rfl) (by kernel_rfl) (fun _ _ _ h => h) (Or.inl ⟨by rfl, ?_⟩) (by assumption) ?_
  rotate_left
  · intro w hSw
    (try dsimp only at hSw)
    go_simp
    all_goals with_reducible rfl
  try simp only [Act.put, List.getElem_toArray, List.getElem_cons_succ, List.getElem_cons_zero, List.setIfInBounds_toArray, List.set_cons_zero, List.set_cons_succ]
  refine wpAnyH_take (i := 6) (v := ?_) rfl (by kernel_rfl) (by kernel_rfl) (by kernel_rfl) (fun _ _ _ h => h) (Or.inl ⟨by rfl, ?_⟩) (by assumption) ?_
  rotate_left
  · intro w hSw
    (try dsimp only at hSw)
    go_simp
    all_goals with_reducible rfl
  try simp only [Act.put, List.getElem_toArray, List.getElem_cons_succ, List.getElem_cons_zero, List.setIfInBounds_toArray, List.set_cons_zero, List.set_cons_succ]
  refine wpAnyH_take (i := 7) (v := ?_) rfl (by kernel_rfl) (by kernel_rfl) (by kernel_rfl) (fun _ _ _ h => h) (Or.inl ⟨by rfl, ?_⟩) (by assumption) ?_
  rotate_left
  · intro w hSw
    (try dsimp only at hSw)
    go_simp
    all_goals with_reducible rfl
  try simp only [Act.put, List.getElem_toArray, List.getElem_cons_succ, List.getElem_cons_zero, List.setIfInBounds_toArray, List.set_cons_zero, List.set_cons_succ]
  refine wpAnyH_take (i := 8) (v := ?_) rfl (by kernel_rfl) (by kernel_rfl) (by kernel_rfl) (fun _ _ _ h => h) (Or.inl ⟨by rfl, ?_⟩) (by assumption) ?_
  rotate_left
  · intro w hSw
    (try dsimp only at hSw)
    go_simp
    all_goals with_reducible rfl
  try simp only [Act.put, List.getElem_toArray, List.getElem_cons_succ, List.getElem_cons_zero, List.setIfInBounds_toArray, List.set_cons_zero, List.set_cons_succ]
  refine wpAnyH_take (i := 9) (v := ?_) rfl (by kernel_rfl) (by kernel_rfl) (by kernel_rfl) (fun _ _ _ h => h) (Or.inl ⟨by rfl, ?_⟩) (by assumption) ?_
  rotate_left
  · intro w hSw
    (try dsimp only at hSw)
    go_simp
    all_goals with_reducible rfl
  try simp only [Act.put, List.getElem_toArray, List.getElem_cons_succ, List.getElem_cons_zero, List.setIfInBounds_toArray, List.set_cons_zero, List.set_cons_succ]
  refine wpAnyH_take (i := 10) (v := ?_) rfl (by kernel_rfl) (by kernel_rfl) (by kernel_rfl) (fun _ _ _ h => h) (Or.inl ⟨by rfl, ?_⟩) (by assumption) ?_
  rotate_left
  · intro w hSw
    (try dsimp only at hSw)
    go_simp
    all_goals with_reducible rfl
  try simp only [Act.put, List.getElem_toArray, List.getElem_cons_succ, List.getElem_cons_zero, List.setIfInBounds_toArray, List.set_cons_zero, List.set_cons_succ]
  refine wpAnyH_take (i := 11) (v := ?_) rfl (by kernel_rfl) (by kernel_rfl) (by kernel_rfl) (fun _ _ _ h => h) (Or.inl ⟨by rfl, ?_⟩) (by assumption) ?_
  rotate_left
  · intro w hSw
    (try dsimp only at hSw)
    go_simp
    all_goals with_reducible rfl
  try simp only [Act.put, List.getElem_toArray, List.getElem_cons_succ, List.getElem_cons_zero, List.setIfInBounds_toArray, List.set_cons_zero, List.set_cons_succ]
  refine wpAnyH_take (i := 12) (v := ?_) rfl (by kernel_rfl) (by kernel_rfl) (by kernel_rfl) (fun _ _ _ h => h) (Or.inl ⟨by rfl, ?_⟩) (by assumption) ?_
  rotate_left
  · intro w hSw
    (try dsimp only at hSw)
    go_simp
    all_goals with_reducible rfl
  try simp only [Act.put, List.getElem_toArray, List.getElem_cons_succ, List.getElem_cons_zero, List.setIfInBounds_toArray, List.set_cons_zero, List.set_cons_succ]
  refine wpAnyH_take (i := 13) (v := ?_) rfl (by kernel_rfl) (by kernel_rfl) (by kernel_rfl) (fun _ _ _ h => h) (Or.inl ⟨by rfl, ?_⟩) (by assumption) ?_
  rotate_left
  · intro w hSw
    (try dsimp only at hSw)
    go_simp
    all_goals with_reducible rfl
  try simp only [Act.put, List.getElem_toArray, List.getElem_cons_succ, List.getElem_cons_zero, List.setIfInBounds_toArray, List.set_cons_zero, List.set_cons_succ]
  refine wpAnyH_take (i := 14) (v := ?_) rfl (by kernel_rfl) (by kernel_rfl) (by kernel_rfl) (fun _ _ _ h => h) (Or.inl ⟨by rfl, ?_⟩) (by assumption) ?_
  rotate_left
  · intro w hSw
    (try dsimp only at hSw)
    go_simp
    all_goals with_reducible rfl
  try simp only [Act.put, List.getElem_toArray, List.getElem_cons_succ, List.getElem_cons_zero, List.setIfInBounds_toArray, List.set_cons_zero, List.set_cons_succ]
  refine wpAnyH_take (i := 15) (v := ?_) rfl (by kernel_rfl) (by kernel_rfl) (by kernel_rfl) (fun _ _ _ h => h) (Or.inl ⟨by rfl, ?_⟩) (by assumption) ?_
  rotate_left
  · intro w hSw
    (try dsimp only at hSw)
    go_simp
    all_goals with_reducible rfl
  try simp only [Act.put, List.getElem_toArray, List.getElem_cons_succ, List.getElem_cons_zero, List.setIfInBounds_toArray, List.set_cons_zero, List.set_cons_succ]
  refine wpAnyH_take (i := 16) (v := ?_) rfl (by kernel_rfl) (by kernel_rfl) (by kernel_rfl) (fun _ _ _ h => h) (Or.inl ⟨by rfl, ?_⟩) (by assumption) ?_
  rotate_left
  · intro w hSw
    (try dsimp only at hSw)
    go_simp
    all_goals with_reducible rfl
  try simp only [Act.put, List.getElem_toArray, List.getElem_cons_succ, List.getElem_cons_zero, List.setIfInBounds_toArray, List.set_cons_zero, List.set_cons_succ]
  refine wpAnyH_take (i := 17) (v := ?_) rfl (by kernel_rfl) (by kernel_rfl) (by kernel_rfl) (fun _ _ _ h => h) (Or.inl ⟨by rfl, ?_⟩) (by assumption) ?_
  rotate_left
  · intro w hSw
    (try dsimp only at hSw)
    go_simp
    all_goals with_reducible rfl
  try simp only [Act.put, List.getElem_toArray, List.getElem_cons_succ, List.getElem_cons_zero, List.setIfInBounds_toArray, List.set_cons_zero, List.set_cons_succ]
  refine wpAnyH_take (i := 18) (v := ?_) rfl (by kernel_rfl) (by kernel_rfl) (by kernel_rfl) (fun _ _ _ h => h) (Or.inl ⟨by rfl, ?_⟩) (by assumption) ?_
  rotate_left
  · intro w hSw
    (try dsimp only at hSw)
    go_simp
    all_goals with_reducible rfl
  try simp only [Act.put, List.getElem_toArray, List.getElem_cons_succ, List.getElem_cons_zero, List.setIfInBounds_toArray, List.set_cons_zero, List.set_cons_succ]
  refine wpAnyH_take (i := 19) (v := ?_) rfl (by kernel_rfl) (by kernel_rfl) (by kernel_rfl) (fun _ _ _ h => h) (Or.inl ⟨by rfl, ?_⟩) (by assumption) ?_
  rotate_left
  · intro w hSw
    (try dsimp only at hSw)
    go_simp
    all_goals with_reducible rfl
  try simp only [Act.put, List.getElem_toArray, List.getElem_cons_succ, List.getElem_cons_zero, List.setIfInBounds_toArray, List.set_cons_zero, List.set_cons_succ]
  refine wpAnyH_take (i := 20) (v := ?_) rfl (by kernel_rfl) (by kernel_rfl) (by kernel_rfl) (fun _ _ _ h => h) (Or.inl ⟨by rfl, ?_⟩) (by assumption) ?_
  rotate_left
  · intro w hSw
    (try dsimp only at hSw)
    go_simp
    all_goals with_reducible rfl
  try simp only [Act.put, List.getElem_toArray, List.getElem_cons_succ, List.getElem_cons_zero, List.setIfInBounds_toArray, List.set_cons_zero, List.set_cons_succ]
  refine wpAnyH_take (i := 21) (v := ?_) rfl (by kernel_rfl) (by kernel_rfl) (by kernel_rfl) (fun _ _ _ h => h) (Or.inl ⟨by rfl, ?_⟩) (by assumption) ?_
  rotate_left
  · intro w hSw
    (try dsimp only at hSw)
    go_simp
    all_goals with_reducible rfl
  try simp only [Act.put, List.getElem_toArray, List.getElem_cons_succ, List.getElem_cons_zero, List.setIfInBounds_toArray, List.set_cons_zero, List.set_cons_succ]
  refine wpAnyH_take (i := 22) (v := ?_) rfl (by kernel_rfl) (by kernel_rfl) (by kernel_rfl) (fun _ _ _ h => h) (Or.inl ⟨by rfl, ?_⟩) (by assumption) ?_
  rotate_left
  · intro w hSw
    (try dsimp only at hSw)
    go_simp
    all_goals with_reducible rfl
  try simp only [Act.put, List.getElem_toArray, List.getElem_cons_succ, List.getElem_cons_zero, List.setIfInBounds_toArray, List.set_cons_zero, List.set_cons_succ]
  refine wpAnyH_done (by kernel_rfl) ?_ _
  clear hHeld
  go_wp2
  go_ret
  exact ⟨by rw [hvt.out]; rfl, Below.drew (Below.refl _ _)⟩
end Go.Proofs.Ytkklofchgmbdnaa
