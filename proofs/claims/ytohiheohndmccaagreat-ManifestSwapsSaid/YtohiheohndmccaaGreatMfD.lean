/- Contracts of the program's manifest: Right, size, read, write. Contracts of the program's manifest: Put. Contracts of the program's manifest: Get. Contracts of the program's manifest: Load, deleteNext. -/
import Derived.Test.YtohiheohndmccaaGreatDkS
import Derived.Test.YtohiheohndmccaaGreatFrm
import Derived.Test.YtohiheohndmccaaGreatSumF
import Derived.Test.YtohiheohndmccaaGreatInts
import Derived.Laws.BitsAllLaws
namespace Go.Proofs.YtohiheohndmccaaGreat
set_option linter.unusedSimpArgs false
section
open Go.RowKit Go.Sort
open Crc Frm
attribute [local go_sem] Oper.semAt_some

/-- Each stands above the one ahead, and none above 2^30. -/
def upL (a : Int) : List Int → Bool
  | [] => true
  | n :: l => decide (a < n) && (decide (n ≤ 1073741824) && upL n l)
/-- May a list be so? -/
def mOk (l : List Int) : Bool := decide (1 ≤ l.length) && (decide (l.length ≤ 40) && upL (-1) l)
theorem upL_no {z x : Int} {l : List Int} (h : ¬ (z < x ∧ x ≤ 1073741824)) : upL z (x :: l) = false := by
  simp only [upL]
  by_cases h1 : z < x
  · have h2 : ¬ x ≤ 1073741824 := fun h2 => h ⟨h1, h2⟩
    simp [h2]
  · simp [h1]
theorem upL_yes {z x : Int} {l : List Int} (h1 : z < x) (h2 : x ≤ 1073741824) : upL z (x :: l) = upL x l := by simp [upL, h1, h2]

set_option linter.unusedSimpArgs false in
set_option maxRecDepth 100000 in
set_option maxHeartbeats 1600000 in
theorem mright_any (l : List Int) (a : Option Addr) (n c : Nat) (w : World) (hr : Row w w.heap.size a n c 1 (intsC l)) (hn : l.length = n) :
    Calls Tryz.prog 38 #[.slice a n c] w fun e w' => e = .returned (.bool (mOk l)) ∧ w = w' := by
  have hcm := hr.max
  have hle := hr.le
  unfold maxLen at hcm
  have HL : Hid (mOk l = (decide (1 ≤ n) && (decide (n ≤ 40) && upL (-1) l))) := by show _ = _; unfold mOk; rw [hn]
  have HR := Lib.hid (And.intro hr hn)
  clear hr hn
  go_enter Tryz.func38, Tryz.ntmps38
  by_cases h1 : 1 ≤ n
  · by_cases h2 : n ≤ 40
    · go_wp2_with fail
      go_loopw [3, 5, 16] (fun z _ i wr => ∃ (k : Nat) (x : Int), k ≤ n ∧ i = .int .i64 (k : Int) ∧ z = .int .i64 x ∧ upL (-1) l = upL x (l.drop k) ∧ wr = w) (fun _ _ i _ => n - (intOf i).toNat)
      case atStart => exact ⟨0, -1, Nat.zero_le _, rfl, rfl, rfl, rfl⟩
      case round =>
        obtain ⟨k, z, hk, rfl, rfl, hu, rfl⟩ := hrel
        by_cases hlt : k < n
        · obtain ⟨b, o, rfl, hb, hc⟩ := HR.out.1.at_ (by omega)
          have c0 := hc k (by omega)
          simp only [intsC, Nat.mul_one] at c0
          have hlk : k < l.length := by have := HR.out.2; omega
          have hd : l.drop k = l.getD k 0 :: l.drop (k + 1) := by rw [List.drop_eq_getElem_cons hlk, List.getD_eq_getElem?_getD, List.getElem?_eq_getElem hlk]; rfl
          rw [hd] at hu
          generalize l.getD k 0 = x at *
          have HU := Lib.hid hu
          clear hu hd hc hlk
          by_cases hx1 : z < x
          · by_cases hx2 : x ≤ 1073741824
            · go_wp2
              go_roundw
              case rel => exact ⟨k + 1, x, by omega, by go_num, rfl, HU.out.trans (upL_yes hx1 hx2), by trivial⟩
              case measure => simp [intOf]; omega
            · go_wp2
              go_ret
              exact ⟨ret_bool (by rw [HL.out, HU.out, upL_no (by omega)]; simp), rfl⟩
          · go_wp2
            go_ret
            exact ⟨ret_bool (by rw [HL.out, HU.out, upL_no (by omega)]; simp), rfl⟩
        · have HU := Lib.hid hu
          clear hu
          go_wp2
          go_ret
          refine ⟨ret_bool ?_, rfl⟩
          rw [HL.out, HU.out, List.drop_of_length_le (by have := HR.out.2; omega)]
          simp [upL, h1, h2]
    · go_wp2
      go_ret
      exact ⟨ret_bool (by rw [HL.out]; simp [h2]), rfl⟩
  · go_wp2
    go_ret
    exact ⟨ret_bool (by rw [HL.out]; simp [h1]), rfl⟩

theorem msize_any (n : Nat) (hn : n ≤ 1000000) (w : World) :
    Calls Tryz.prog 53 #[.int .i64 (n : Int)] w fun e w' => e = .returned (.int .i64 ((5 + 4 * n : Nat) : Int)) ∧ w = w' := by
  have w1 : IntKind.i64.wrap ((n : Int) * 4) = (n : Int) * 4 := by rw [IntKind.wrap_i64]; omega
  have w2 : IntKind.i64.wrap (1 + (n : Int) * 4) = 1 + (n : Int) * 4 := by rw [IntKind.wrap_i64]; omega
  have w3 : IntKind.i64.wrap (1 + (n : Int) * 4 + 4) = 1 + (n : Int) * 4 + 4 := by rw [IntKind.wrap_i64]; omega
  go_enter Tryz.func53, Tryz.ntmps53
  go_wp2
  go_ret
  exact ⟨ret_i64 (by omega), rfl⟩

theorem or_sum (k a b : Nat) (A B C : Nat) (hA : A = 2 ^ k * a) (hB : B = b) (hb : b < 2 ^ k) (hA2 : A < 4294967296) (hB2 : B < 4294967296) (hC : C = A + B) : bits .or .u32 (A : Int) (B : Int) = (C : Int) := by
  subst hB hC
  rw [u32_or_nat A B hA2 hB2, hA, ← Nat.two_pow_add_eq_or_of_lt hb a]
theorem be4 (y : Nat) : be 4 y = [y / 16777216 % 256, y / 65536 % 256, y / 256 % 256, y % 256] := by simp [be]
set_option linter.unusedSimpArgs false in
set_option maxRecDepth 100000 in
set_option maxHeartbeats 1600000 in
theorem mwrite_any (base : Nat) (v : Value) (bs : List Nat) (y : Nat) (w : World) (hown : OwnB w base 5 v bs) (hbase : base ≤ w.heap.size) (hy : y < 4294967296) (hl : bs.length ≤ 1000000) :
    Calls Tryz.prog 54 #[v, .int .u32 (y : Int)] w fun e w' => ∃ v', e = .returned v' ∧ OwnB w' base 5 v' (bs ++ be 4 y) ∧ w.grownBy w' v.ownBlock ∧ (v'.ownBlock = v.ownBlock ∨ ∃ b, v'.ownBlock = some b ∧ w.heap.size ≤ b) := by
  have y0 : (y : Int) / 16777216 = ((y / 16777216 % 256 : Nat) : Int) := by omega
  have y1 : (y : Int) / 65536 % 256 = ((y / 65536 % 256 : Nat) : Int) := by omega
  have y2 : (y : Int) / 256 % 256 = ((y / 256 % 256 : Nat) : Int) := by omega
  have y3 : (y : Int) % 256 = ((y % 256 : Nat) : Int) := by omega
  rw [be4]
  have l0 : y / 16777216 % 256 < 256 := Nat.mod_lt _ (by decide)
  have l1 : y / 65536 % 256 < 256 := Nat.mod_lt _ (by decide)
  have l2 : y / 256 % 256 < 256 := Nat.mod_lt _ (by decide)
  have l3 : y % 256 < 256 := Nat.mod_lt _ (by decide)
  generalize y / 16777216 % 256 = b0 at *
  generalize y / 65536 % 256 = b1 at *
  generalize y / 256 % 256 = b2 at *
  generalize y % 256 = b3 at *
  have HS := Lib.hid (lit_sl w [b0, b1, b2, b3] (by intro c hc; simp at hc; omega) (by simp [maxLen]))
  have HO := Lib.hid hown
  clear hown
  go_enter Tryz.func54, Tryz.ntmps54
  go_wp2_with (first
    | (at_builtin; refine wpList_append_sl rfl (.tmp 5) (.tmp 17) 32 rfl base _ Tryz.underlying32 info_u8 v bs rfl (HO.out.alloc _) _ (some ⟨w.heap.size, 0, none⟩) 4 4 [b0, b1, b2, b3] rfl HS.out (by omega) (by simp; omega) ?_; intro v1 w3 hown1 hg1 hat1)
    | fail)
  have H3 := Lib.hid (And.intro hown1 (And.intro hg1 hat1))
  clear hown1 hg1 hat1
  go_wp2
  go_ret
  refine ⟨v1, rfl, H3.out.1, ?_, ?_⟩
  · have := (World.grownBy_alloc w (.cells #[.int .u8 (b0 : Int), .int .u8 (b1 : Int), .int .u8 (b2 : Int), .int .u8 (b3 : Int)] 5) v.ownBlock).andThen H3.out.2.1 (fun q hq => .inr hq)
    exact this
  · rcases H3.out.2.2 with h | h
    · exact .inl h
    · exact .inr ⟨_, h, by simp⟩

set_option linter.unusedSimpArgs false in
set_option maxRecDepth 100000 in
set_option maxHeartbeats 1600000 in
theorem mread_any (a : Option Addr) (len cap : Nat) (bs : List Nat) (w : World) (hs : Sl w w.heap.size a len cap bs) (h4 : 4 ≤ len) :
    Calls Tryz.prog 56 #[.slice a len cap] w fun e w' => e = .returned (.int .u32 ((val (bs.take 4) : Nat) : Int)) ∧ Below w.heap.size w w' := by
  obtain ⟨b, o, rfl, hb, hc⟩ := hs.at_ (by omega)
  have hbl := hs.length
  have c0 := hc 0 (by omega)
  have c1 := hc 1 (by omega)
  have c2 := hc 2 (by omega)
  have c3 := hc 3 (by omega)
  have l0 : bs.getD 0 0 < 256 := by rw [List.getD_eq_getElem?_getD, List.getElem?_eq_getElem (by omega)]; exact hs.byte _ (List.getElem_mem _)
  have l1 : bs.getD 1 0 < 256 := by rw [List.getD_eq_getElem?_getD, List.getElem?_eq_getElem (by omega)]; exact hs.byte _ (List.getElem_mem _)
  have l2 : bs.getD 2 0 < 256 := by rw [List.getD_eq_getElem?_getD, List.getElem?_eq_getElem (by omega)]; exact hs.byte _ (List.getElem_mem _)
  have l3 : bs.getD 3 0 < 256 := by rw [List.getD_eq_getElem?_getD, List.getElem?_eq_getElem (by omega)]; exact hs.byte _ (List.getElem_mem _)
  have hv : Hid (val (bs.take 4) = bs.getD 0 0 * 16777216 + bs.getD 1 0 * 65536 + bs.getD 2 0 * 256 + bs.getD 3 0) := by
    show _ = _
    match bs, (show 4 ≤ bs.length by omega) with
    | x0 :: x1 :: x2 :: x3 :: t, _ => simp [val]; omega
  generalize bs.getD 0 0 = b0 at *
  generalize bs.getD 1 0 = b1 at *
  generalize bs.getD 2 0 = b2 at *
  generalize bs.getD 3 0 = b3 at *
  have n0 : 0 < len := by omega
  have n1 : (1 : Int) < (len : Int) := by omega
  have n2 : (2 : Int) < (len : Int) := by omega
  have n3 : (3 : Int) < (len : Int) := by omega
  have x0 : IntKind.u32.wrap (b0 : Int) = (b0 : Int) := by rw [IntKind.wrap_u32]; omega
  have x1 : IntKind.u32.wrap (b1 : Int) = (b1 : Int) := by rw [IntKind.wrap_u32]; omega
  have x2 : IntKind.u32.wrap (b2 : Int) = (b2 : Int) := by rw [IntKind.wrap_u32]; omega
  have x3 : IntKind.u32.wrap (b3 : Int) = (b3 : Int) := by rw [IntKind.wrap_u32]; omega
  obtain ⟨s0, hs0⟩ : ∃ s0, s0 = b0 * 16777216 := ⟨_, rfl⟩
  obtain ⟨s1, hs1⟩ : ∃ s1, s1 = b1 * 65536 := ⟨_, rfl⟩
  obtain ⟨s2, hs2⟩ : ∃ s2, s2 = b2 * 256 := ⟨_, rfl⟩
  obtain ⟨t1, ht1⟩ : ∃ t1, t1 = s0 + s1 := ⟨_, rfl⟩
  obtain ⟨t2, ht2⟩ : ∃ t2, t2 = t1 + s2 := ⟨_, rfl⟩
  obtain ⟨t3, ht3⟩ : ∃ t3, t3 = t2 + b3 := ⟨_, rfl⟩
  have y0 : IntKind.u32.wrap ((b0 : Int) * 16777216) = (s0 : Int) := by rw [IntKind.wrap_u32]; omega
  have y1 : IntKind.u32.wrap ((b1 : Int) * 65536) = (s1 : Int) := by rw [IntKind.wrap_u32]; omega
  have y2 : IntKind.u32.wrap ((b2 : Int) * 256) = (s2 : Int) := by rw [IntKind.wrap_u32]; omega
  have o1 : bits .or .u32 (s0 : Int) (s1 : Int) = (t1 : Int) := or_sum 24 b0 s1 s0 s1 t1 (by omega) rfl (by omega) (by omega) (by omega) ht1
  have o2 : bits .or .u32 (t1 : Int) (s2 : Int) = (t2 : Int) := or_sum 16 (b0 * 256 + b1) s2 t1 s2 t2 (by omega) rfl (by omega) (by omega) (by omega) ht2
  have o3 : bits .or .u32 (t2 : Int) (b3 : Int) = (t3 : Int) := or_sum 8 (b0 * 65536 + b1 * 256 + b2) b3 t2 b3 t3 (by omega) rfl (by omega) (by omega) (by omega) ht3
  have hvt : Hid (t3 = val (bs.take 4)) := by show _ = _; have := hv.out; omega
  clear hs0 hs1 hs2 ht1 ht2 ht3 l0 l1 l2 l3 h4
  clear hc hs hbl
  go_enter Tryz.func56, Tryz.ntmps56
  go_wp2_with fail
  refine wp_region_held_drew (S := fun x => x.cell? ⟨b, o, none⟩ = some (.int .u8 (b0 : Int)) ∧ x.cell? ⟨b, o + 1, none⟩ = some (.int .u8 (b1 : Int)) ∧ x.cell? ⟨b, o + 2, none⟩ = some (.int .u8 (b2 : Int)) ∧ x.cell? ⟨b, o + 3, none⟩ = some (.int .u8 (b3 : Int))) (by kernel_rfl) ⟨c0, c1, c2, c3⟩ (fun hHeld => ?_)
  refine wpAnyH_take (i := 0) (v := ?_) rfl (by kernel_rfl) (by kernel_rfl) (by kernel_rfl) (fun _ _ _ h => h) (Or.inl ⟨by rfl, ?_⟩) (by assumption) ?_
  rotate_left
  · intro w hSw
    (try dsimp only at hSw)
    go_simp
    all_goals with_reducible rfl
  try simp only [Act.put, List.getElem_toArray, List.getElem_cons_succ, List.getElem_cons_zero, List.setIfInBounds_toArray, List.set_cons_zero, List.set_cons_succ]
  refine wpAnyH_take (i := 1) (v := ?_) rfl (by kernel_rfl) (by kernel_rfl) (by kernel_rfl) (fun _ _ _ h => h) (Or.inl ⟨by rfl, ?_⟩) (by assumption) ?_
  rotate_left
  · intro w hSw
    (try dsimp only at hSw)
    go_simp
    all_goals with_reducible rfl
  try simp only [Act.put, List.getElem_toArray, List.getElem_cons_succ, List.getElem_cons_zero, List.setIfInBounds_toArray, List.set_cons_zero, List.set_cons_succ]
  refine wpAnyH_take (i := 2) (v := ?_) rfl (by kernel_rfl) (by kernel_rfl) (by kernel_rfl) (fun _ _ _ h => h) (Or.inl ⟨by rfl, ?_⟩) (by assumption) ?_
  rotate_left
  · intro w hSw
    (try dsimp only at hSw)
    go_simp
    all_goals with_reducible rfl
  try simp only [Act.put, List.getElem_toArray, List.getElem_cons_succ, List.getElem_cons_zero, List.setIfInBounds_toArray, List.set_cons_zero, List.set_cons_succ]
  refine wpAnyH_take (i := 3) (v := ?_) rfl (by kernel_rfl) (by kernel_rfl) (by kernel_rfl) (fun _ _ _ h => h) (Or.inl ⟨by rfl, ?_⟩) (by assumption) ?_
  rotate_left
  · intro w hSw
    (try dsimp only at hSw)
    go_simp
    all_goals with_reducible rfl
  try simp only [Act.put, List.getElem_toArray, List.getElem_cons_succ, List.getElem_cons_zero, List.setIfInBounds_toArray, List.set_cons_zero, List.set_cons_succ]
  refine wpAnyH_take (i := 4) (v := ?_) rfl (by kernel_rfl) (by kernel_rfl) (by kernel_rfl) (fun _ _ _ h => h) (Or.inl ⟨by rfl, ?_⟩) (by assumption) ?_
  rotate_left
  · intro w hSw
    (try dsimp only at hSw)
    go_simp
    all_goals with_reducible rfl
  try simp only [Act.put, List.getElem_toArray, List.getElem_cons_succ, List.getElem_cons_zero, List.setIfInBounds_toArray, List.set_cons_zero, List.set_cons_succ]
  refine wpAnyH_take (i := 5) (v := ?_) rfl (by kernel_rfl) (by kernel_rfl) (by kernel_rfl) (fun _ _ _ h => h) (Or.inl ⟨by rfl, ?_⟩) (by assumption) ?_
  rotate_left
  · intro w hSw
    (try dsimp only at hSw)
    go_simp
    all_goals with_reducible rfl
  try simp only [Act.put, List.getElem_toArray, List.getElem_cons_succ, List.getElem_cons_zero, List.setIfInBounds_toArray, List.set_cons_zero, List.set_cons_succ]
  refine wpAnyH_take (i := 6) (v := ?_) rfl (by kernel_rfl) (by kernel_rfl) (by kernel_rfl) (fun _ _ _ h => h) (Or.inl ⟨by rfl, ?_⟩) (by assumption) ?_
  rotate_left
  · intro w hSw
    (try dsimp only at hSw)
    go_simp
    all_goals with_reducible rfl
  try simp only [Act.put, List.getElem_toArray, List.getElem_cons_succ, List.getElem_cons_zero, List.setIfInBounds_toArray, List.set_cons_zero, List.set_cons_succ]
  refine wpAnyH_take (i := 7) (v := ?_) rfl (by kernel_rfl) (by kernel_rfl) (by kernel_rfl) (fun _ _ _ h => h) (Or.inl ⟨by rfl, ?_⟩) (by assumption) ?_
  rotate_left
  · intro w hSw
    (try dsimp only at hSw)
    go_simp
    all_goals with_reducible rfl
  try simp only [Act.put, List.getElem_toArray, List.getElem_cons_succ, List.getElem_cons_zero, List.setIfInBounds_toArray, List.set_cons_zero, List.set_cons_succ]
  refine wpAnyH_take (i := 8) (v := ?_) rfl (by kernel_rfl) (by kernel_rfl) (by kernel_rfl) (fun _ _ _ h => h) (Or.inl ⟨by rfl, ?_⟩) (by assumption) ?_
  rotate_left
  · intro w hSw
    (try dsimp only at hSw)
    go_simp
    all_goals with_reducible rfl
  try simp only [Act.put, List.getElem_toArray, List.getElem_cons_succ, List.getElem_cons_zero, List.setIfInBounds_toArray, List.set_cons_zero, List.set_cons_succ]
  refine wpAnyH_take (i := 9) (v := ?_) rfl (by kernel_rfl) (by kernel_rfl) (by kernel_rfl) (fun _ _ _ h => h) (Or.inl ⟨by rfl, ?_⟩) (by assumption) ?_
  rotate_left
  · intro w hSw
    (try dsimp only at hSw)
    go_simp
    all_goals with_reducible rfl
  try simp only [Act.put, List.getElem_toArray, List.getElem_cons_succ, List.getElem_cons_zero, List.setIfInBounds_toArray, List.set_cons_zero, List.set_cons_succ]
  refine wpAnyH_take (i := 10) (v := ?_) rfl (by kernel_rfl) (by kernel_rfl) (by kernel_rfl) (fun _ _ _ h => h) (Or.inl ⟨by rfl, ?_⟩) (by assumption) ?_
  rotate_left
  · intro w hSw
    (try dsimp only at hSw)
    go_simp
    all_goals with_reducible rfl
  try simp only [Act.put, List.getElem_toArray, List.getElem_cons_succ, List.getElem_cons_zero, List.setIfInBounds_toArray, List.set_cons_zero, List.set_cons_succ]
  refine wpAnyH_take (i := 11) (v := ?_) rfl (by kernel_rfl) (by kernel_rfl) (by kernel_rfl) (fun _ _ _ h => h) (Or.inl ⟨by rfl, ?_⟩) (by assumption) ?_
  rotate_left
  · intro w hSw
    (try dsimp only at hSw)
    go_simp
    all_goals with_reducible rfl
  try simp only [Act.put, List.getElem_toArray, List.getElem_cons_succ, List.getElem_cons_zero, List.setIfInBounds_toArray, List.set_cons_zero, List.set_cons_succ]
  refine wpAnyH_take (i := 12) (v := ?_) rfl (by kernel_rfl) (by kernel_rfl) (by kernel_rfl) (fun _ _ _ h => h) (Or.inl ⟨by rfl, ?_⟩) (by assumption) ?_
  rotate_left
  · intro w hSw
    (try dsimp only at hSw)
    go_simp
    all_goals with_reducible rfl
  try simp only [Act.put, List.getElem_toArray, List.getElem_cons_succ, List.getElem_cons_zero, List.setIfInBounds_toArray, List.set_cons_zero, List.set_cons_succ]
  refine wpAnyH_take (i := 13) (v := ?_) rfl (by kernel_rfl) (by kernel_rfl) (by kernel_rfl) (fun _ _ _ h => h) (Or.inl ⟨by rfl, ?_⟩) (by assumption) ?_
  rotate_left
  · intro w hSw
    (try dsimp only at hSw)
    go_simp
    all_goals with_reducible rfl
  try simp only [Act.put, List.getElem_toArray, List.getElem_cons_succ, List.getElem_cons_zero, List.setIfInBounds_toArray, List.set_cons_zero, List.set_cons_succ]
  refine wpAnyH_take (i := 14) (v := ?_) rfl (by kernel_rfl) (by kernel_rfl) (by kernel_rfl) (fun _ _ _ h => h) (Or.inl ⟨by rfl, ?_⟩) (by assumption) ?_
  rotate_left
  · intro w hSw
    (try dsimp only at hSw)
    go_simp
    all_goals with_reducible rfl
  try simp only [Act.put, List.getElem_toArray, List.getElem_cons_succ, List.getElem_cons_zero, List.setIfInBounds_toArray, List.set_cons_zero, List.set_cons_succ]
  refine wpAnyH_take (i := 15) (v := ?_) rfl (by kernel_rfl) (by kernel_rfl) (by kernel_rfl) (fun _ _ _ h => h) (Or.inl ⟨by rfl, ?_⟩) (by assumption) ?_
  rotate_left
  · intro w hSw
    (try dsimp only at hSw)
    go_simp
    all_goals with_reducible rfl
  try simp only [Act.put, List.getElem_toArray, List.getElem_cons_succ, List.getElem_cons_zero, List.setIfInBounds_toArray, List.set_cons_zero, List.set_cons_succ]
  refine wpAnyH_take (i := 16) (v := ?_) rfl (by kernel_rfl) (by kernel_rfl) (by kernel_rfl) (fun _ _ _ h => h) (Or.inl ⟨by rfl, ?_⟩) (by assumption) ?_
  rotate_left
  · intro w hSw
    (try dsimp only at hSw)
    go_simp
    all_goals with_reducible rfl
  try simp only [Act.put, List.getElem_toArray, List.getElem_cons_succ, List.getElem_cons_zero, List.setIfInBounds_toArray, List.set_cons_zero, List.set_cons_succ]
  refine wpAnyH_take (i := 17) (v := ?_) rfl (by kernel_rfl) (by kernel_rfl) (by kernel_rfl) (fun _ _ _ h => h) (Or.inl ⟨by rfl, ?_⟩) (by assumption) ?_
  rotate_left
  · intro w hSw
    (try dsimp only at hSw)
    go_simp
    all_goals with_reducible rfl
  try simp only [Act.put, List.getElem_toArray, List.getElem_cons_succ, List.getElem_cons_zero, List.setIfInBounds_toArray, List.set_cons_zero, List.set_cons_succ]
  refine wpAnyH_take (i := 18) (v := ?_) rfl (by kernel_rfl) (by kernel_rfl) (by kernel_rfl) (fun _ _ _ h => h) (Or.inl ⟨by rfl, ?_⟩) (by assumption) ?_
  rotate_left
  · intro w hSw
    (try dsimp only at hSw)
    go_simp
    all_goals with_reducible rfl
  try simp only [Act.put, List.getElem_toArray, List.getElem_cons_succ, List.getElem_cons_zero, List.setIfInBounds_toArray, List.set_cons_zero, List.set_cons_succ]
  refine wpAnyH_take (i := 19) (v := ?_) rfl (by kernel_rfl) (by kernel_rfl) (by kernel_rfl) (fun _ _ _ h => h) (Or.inl ⟨by rfl, ?_⟩) (by assumption) ?_
  rotate_left
  · intro w hSw
    (try dsimp only at hSw)
    go_simp
    all_goals with_reducible rfl
  try simp only [Act.put, List.getElem_toArray, List.getElem_cons_succ, List.getElem_cons_zero, List.setIfInBounds_toArray, List.set_cons_zero, List.set_cons_succ]
  refine wpAnyH_take (i := 20) (v := ?_) rfl (by kernel_rfl) (by kernel_rfl) (by kernel_rfl) (fun _ _ _ h => h) (Or.inl ⟨by rfl, ?_⟩) (by assumption) ?_
  rotate_left
  · intro w hSw
    (try dsimp only at hSw)
    go_simp
    all_goals with_reducible rfl
  try simp only [Act.put, List.getElem_toArray, List.getElem_cons_succ, List.getElem_cons_zero, List.setIfInBounds_toArray, List.set_cons_zero, List.set_cons_succ]
  refine wpAnyH_take (i := 21) (v := ?_) rfl (by kernel_rfl) (by kernel_rfl) (by kernel_rfl) (fun _ _ _ h => h) (Or.inl ⟨by rfl, ?_⟩) (by assumption) ?_
  rotate_left
  · intro w hSw
    (try dsimp only at hSw)
    go_simp
    all_goals with_reducible rfl
  try simp only [Act.put, List.getElem_toArray, List.getElem_cons_succ, List.getElem_cons_zero, List.setIfInBounds_toArray, List.set_cons_zero, List.set_cons_succ]
  refine wpAnyH_take (i := 22) (v := ?_) rfl (by kernel_rfl) (by kernel_rfl) (by kernel_rfl) (fun _ _ _ h => h) (Or.inl ⟨by rfl, ?_⟩) (by assumption) ?_
  rotate_left
  · intro w hSw
    (try dsimp only at hSw)
    go_simp
    all_goals with_reducible rfl
  try simp only [Act.put, List.getElem_toArray, List.getElem_cons_succ, List.getElem_cons_zero, List.setIfInBounds_toArray, List.set_cons_zero, List.set_cons_succ]
  refine wpAnyH_done (by kernel_rfl) ?_ _
  clear hHeld
  go_wp2
  go_ret
  exact ⟨by rw [hvt.out]; rfl, Below.drew (Below.refl _ _)⟩
end
section
open Go.RowKit Go.Sort
open Crc Frm
attribute [local go_sem] Oper.semAt_some

/-- The numbers, as bytes. -/
def mNums (l : List Int) : List Nat := l.flatMap fun n => be 4 n.toNat
def mSum (l : List Int) : List Nat := l.length :: mNums l
def mRaw (l : List Int) : List Nat := mSum l ++ be 4 (more 0 (mSum l))
/-- A list's bytes. -/
def mPut (l : List Int) : List Nat := if mOk l = true then mRaw l else []
theorem upL_all : ∀ (l : List Int) (z : Int), upL z l = true → ∀ x ∈ l, z < x ∧ x ≤ 1073741824
  | [], _, _, x, hx => by cases hx
  | y :: l, z, h, x, hx => by
    simp only [upL, Bool.and_eq_true, decide_eq_true_eq] at h
    rcases List.mem_cons.1 hx with rfl | hx
    · exact ⟨h.1, h.2.1⟩
    · have := upL_all l y h.2.2 x hx
      exact ⟨by omega, this.2⟩
theorem mOk_all {l : List Int} (h : mOk l = true) : 1 ≤ l.length ∧ l.length ≤ 40 ∧ ∀ x ∈ l, 0 ≤ x ∧ x ≤ 1073741824 := by
  simp only [mOk, Bool.and_eq_true, decide_eq_true_eq] at h
  refine ⟨h.1, h.2.1, fun x hx => ?_⟩
  have := upL_all l _ h.2.2 x hx
  omega
theorem mNums_len (l : List Int) : (mNums l).length = 4 * l.length := by
  induction l with
  | nil => rfl
  | cons x l ih => simp only [mNums, List.flatMap_cons, List.length_append, be_len, List.length_cons] at *; omega
theorem mNums_byte (l : List Int) : ∀ c ∈ mNums l, c < 256 := by
  intro c hc
  obtain ⟨m, _, h⟩ := List.mem_flatMap.1 hc
  exact be_byte _ _ c h
theorem mNums_snoc (l : List Int) (x : Int) : mNums (l ++ [x]) = mNums l ++ be 4 x.toNat := by simp [mNums]

set_option linter.unusedSimpArgs false in
set_option maxRecDepth 100000 in
set_option maxHeartbeats 3200000 in
theorem mput_any (l : List Int) (a : Option Addr) (n c : Nat) (w : World) (hr : Row w w.heap.size a n c 1 (intsC l)) (hn : l.length = n) :
    Calls Tryz.prog 22 #[.slice a n c] w fun e w' => ∃ v, e = .returned v ∧ OwnB w' w.heap.size 5 v (mPut l) ∧ Below w.heap.size w w' := by
  have R := Lib.hid (mright_any l a n c w hr hn)
  by_cases hok : mOk l = true
  · have hall := mOk_all hok
    rw [hok] at R
    have hp : Hid (mPut l = mRaw l) := by show _ = _; unfold mPut; rw [if_pos hok]
    have n1 : 1 ≤ n := by omega
    have n2 : n ≤ 40 := by omega
    obtain ⟨i8, hi8, hz0, hz1, hz2⟩ := info_parts info_u8
    have u0 : (n : Int) % 256 = (n : Int) := by omega
    have HR := Lib.hid (And.intro hr (And.intro hn hall.2.2))
    clear hr hn hall
    go_enter Tryz.func22, Tryz.ntmps22
    go_wp2_with fail
    refine R.out.mono ?_
    rintro e w1 ⟨rfl, rfl⟩
    have SZ := Lib.hid (msize_any n (by omega) w)
    go_wp2_with fail
    refine SZ.out.mono ?_
    rintro e w1 ⟨rfl, rfl⟩
    go_wp2_with (first
      | (at_make; refine wpList_make_own _ rfl (.const (.int .i64 0)) (.tmp 11) 32 rfl w.heap.size 5 i8 (.int .u8 0) 1 Tryz.underlying32 hi8 hz0 hz1 .i64 .i64 _ (5 + 4 * n) rfl rfl (by omega) (by rw [hz2]; omega) (by unfold maxLen; omega) (by omega) ?_; intro w3 hown hg; have ho3 : OwnB w3 w.heap.size 5 (.slice (some ⟨w.heap.size, 0, none⟩) 0 (5 + 4 * n)) [] := hown; have hB3 : Below w.heap.size w w3 := (RowKit.Below.refl _ _).grown hg (Nat.le_refl _) (fun k hk => by cases hk); have H3 := Lib.hid (And.intro ho3 hB3); clear hown hg ho3 hB3)
      | (at_builtin; go_loud (refine wpList_append_sl rfl (.tmp 13) (.tmp 17) 32 rfl w.heap.size _ Tryz.underlying32 info_u8 _ [] rfl (H3.out.1.alloc _) _ (some ⟨w3.heap.size, 0, none⟩) 1 1 [n] rfl (Sl.one _ _ (by omega)) (by simp) (by have := H3.out.2.size; simp; omega) ?_; intro v4 w4 hown4 hg4 hat4; have hB4 : Below w.heap.size w w4 := (H3.out.2.alloc H3.out.2.size _).grown hg4 (by have := H3.out.2.size; simp; omega) (fun k hk => (H3.out.1.at_base hk).1); have H4 := Lib.hid (And.intro hown4 hB4); clear hown4 hB4 hg4 hat4 H3))
      | fail)
    go_loopw [3, 5, 21] (fun u _ i wx => ∃ k : Nat, k ≤ n ∧ i = .int .i64 (k : Int) ∧ OwnB wx w.heap.size 5 u (n :: mNums (l.take k)) ∧ Below w.heap.size w wx) (fun _ _ i _ => n - (intOf i).toNat)
    case atStart => exact ⟨0, Nat.zero_le _, rfl, H4.out.1, H4.out.2⟩
    case round =>
      obtain ⟨k, hk, rfl, ho, hb⟩ := hrel
      by_cases hlt : k < n
      · obtain ⟨b, o, rfl, hbl, hc⟩ := HR.out.1.at_ (by omega)
        have c0 := (hb.cell (p := ⟨b, o + k, none⟩) hbl).trans (hc k (by omega))
        simp only [intsC, Nat.mul_one] at c0
        have hlk : k < l.length := by have := HR.out.2.1; omega
        have hmem : l.getD k 0 ∈ l := by rw [List.getD_eq_getElem?_getD, List.getElem?_eq_getElem hlk]; exact List.getElem_mem _
        have hx := HR.out.2.2 _ hmem
        have htk : l.take (k + 1) = l.take k ++ [l.getD k 0] := by rw [List.take_succ_eq_append_getElem hlk, List.getD_eq_getElem?_getD, List.getElem?_eq_getElem hlk]; rfl
        have Hnx : Hid (mNums (l.take (k + 1)) = mNums (l.take k) ++ be 4 (l.getD k 0).toNat) := by show _ = _; rw [htk, mNums_snoc]
        generalize l.getD k 0 = x at *
        obtain ⟨y, rfl⟩ := Int.eq_ofNat_of_zero_le hx.1
        have w1 : IntKind.u32.wrap ((y : Nat) : Int) = (y : Int) := by rw [IntKind.wrap_u32']; omega
        have w2 : ((y : Nat) : Int) % 4294967296 = (y : Int) := by omega
        have hlen : (n :: mNums (l.take k)).length ≤ 1000000 := by have h1 := mNums_len (l.take k); have h2 := List.length_take_le k l; simp only [List.length_cons]; omega
        have WR := Lib.hid (mwrite_any w.heap.size _ _ y wr ho hb.size (by omega) hlen)
        have HB := Lib.hid (And.intro hb ho)
        clear hc hb hmem htk ho hx hlen
        go_wp2_with fail
        refine WR.out.mono ?_
        rintro e w5 ⟨v5, rfl, ho5, hg5, hat5⟩
        have hB5 : Below w.heap.size w w5 := HB.out.1.grown hg5 HB.out.1.size (fun k hk => (HB.out.2.at_base hk).1)
        have H5 := Lib.hid (And.intro ho5 hB5)
        clear ho5 hB5 hg5 hat5 WR
        go_wp2
        go_roundw
        case rel => exact ⟨k + 1, by omega, by go_num, by rw [Hnx.out]; exact H5.out.1, H5.out.2⟩
        case measure => simp [intOf]; omega
      · have hkn : k = n := by omega
        subst hkn
        have hms : k :: mNums (l.take k) = mSum l := by rw [List.take_of_length_le (by have := HR.out.2.1; omega)]; unfold mSum; rw [HR.out.2.1]
        rw [hms] at ho
        have hbb : ∀ c ∈ mSum l, c < 256 := by
          intro c hc
          rcases List.mem_cons.1 hc with rfl | h
          · have := HR.out.2.1; omega
          · exact mNums_byte l c h
        have hsl : (mSum l).length ≤ 1000000 := by have h1 := mNums_len l; have h2 := HR.out.2.1; unfold mSum; simp only [List.length_cons]; omega
        obtain ⟨a5, cap5, rfl, hs5⟩ := ho.sl hbb
        have hml := more_lt 0 (mSum l)
        have Hraw : Hid (mPut l = mSum l ++ be 4 (more 0 (mSum l))) := by show _ = _; rw [hp.out]; rfl
        generalize mSum l = ms at *
        generalize hml0 : more 0 ms = m at *
        have HM := Lib.hid hml0
        have OF := Lib.hid (of_any a5 ms.length cap5 ms wr hs5)
        have H5 := Lib.hid (And.intro ho hb)
        clear ho hb hs5 hbb hms hml0
        go_wp2_with fail
        refine OF.out.mono ?_
        rintro e w6 ⟨rfl, hb6⟩
        rw [HM.out]
        have WR := Lib.hid (mwrite_any w.heap.size _ ms m w6 (H5.out.1.below hb6) (Nat.le_trans H5.out.2.size hb6.size) (by omega) hsl)
        have H6 := Lib.hid (And.intro (H5.out.1.below hb6) (H5.out.2.trans (hb6.mono H5.out.2.size)))
        clear hb6 OF
        go_wp2_with fail
        refine WR.out.mono ?_
        rintro e w7 ⟨v7, rfl, ho7, hg7, hat7⟩
        have hB7 : Below w.heap.size w w7 := H6.out.2.grown hg7 H6.out.2.size (fun k hk => (H6.out.1.at_base hk).1)
        have H7 := Lib.hid (And.intro ho7 hB7)
        clear ho7 hB7 hg7 hat7 WR
        go_wp2
        go_ret
        exact ⟨_, rfl, by rw [Hraw.out]; exact H7.out.1, H7.out.2⟩
  · have hno : mOk l = false := by simpa using hok
    rw [hno] at R
    have hp : Hid (mPut l = []) := by show _ = _; unfold mPut; rw [if_neg hok]
    go_enter Tryz.func22, Tryz.ntmps22
    go_wp2_with fail
    refine R.out.mono ?_
    rintro e w1 ⟨rfl, rfl⟩
    go_wp2
    go_ret
    exact ⟨_, rfl, by rw [hp.out]; exact OwnB.nil_ _ _ _, Below.refl _ _⟩
end
section
open Go.RowKit Go.Sort
open Crc Frm
attribute [local go_sem] Oper.semAt_some

/-- Number j of bytes. -/
def mNum (bs : List Nat) (j : Nat) : Int := ((val ((bs.drop (1 + 4 * j)).take 4) : Nat) : Int)
def mList (bs : List Nat) : List Int := (List.range (bs.getD 0 0)).map (mNum bs)
/-- The list of bytes, and the error. -/
def mGet (bs : List Nat) : List Int × Nat :=
  if bs.length = 0 ∨ bs.length ≠ 5 + 4 * bs.getD 0 0 then ([], 12)
  else if val (bs.drop (bs.length - 4)) ≠ more 0 (bs.take (bs.length - 4)) then ([], 14)
  else if mOk (mList bs) = true then (mList bs, 0) else ([], 12)
theorem info_i64m : (Tryz.prog.info? 2).map (fun i => (i.zero, i.size, i.bytes)) = some (some (.int .i64 0), 1, 8) := by kernel_rfl
theorem row_own {w : World} {base : Nat} {e : TypeId} {g n c : Nat} {l : List Int} (h : OwnV w base e (.slice (some ⟨g, 0, none⟩) n c) (i64V l)) : Row w w.heap.size (some ⟨g, 0, none⟩) n c 1 (intsC l) := by
  have hl := h.len
  have hb := h.base_
  have hcc : n ≤ c ∧ c ≤ maxLen := by
    rcases h.2 with ⟨h', _⟩ | ⟨g', cap', cur, h', _, _, h1, h2, _⟩
    · cases h'
    · injection h' with _ h4 h5
      subst h5
      rw [hl]
      exact ⟨h1, h2⟩
  refine ⟨hcc.1, hcc.2, fun _ => ⟨g, 0, rfl, hb.2, fun j hj => ?_⟩⟩
  have hj' : j < l.length := by rw [List.length_map] at hl; omega
  rw [Nat.zero_add, (h.cell (k := j) (u := .int .i64 l[j]) (by rw [List.getElem?_map, List.getElem?_eq_getElem hj']; rfl)).1]
  simp only [intsC, List.getD_eq_getElem?_getD, List.getElem?_eq_getElem hj']
  rfl

set_option linter.unusedSimpArgs false in
set_option maxRecDepth 100000 in
set_option maxHeartbeats 3200000 in
theorem mget_any (a : Option Addr) (len cap : Nat) (bs : List Nat) (w : World) (hs : Sl w w.heap.size a len cap bs) (hl : len ≤ 2000000) :
    Calls Tryz.prog 23 #[.slice a len cap] w fun e w' => ∃ v, e = .returned (.tuple #[v, .int .i64 (((mGet bs).2 : Nat) : Int)]) ∧ OwnV w' w.heap.size 2 v (i64V (mGet bs).1) ∧ Below w.heap.size w w' := by
  have hlen := hs.length
  have hcap := hs.le
  by_cases h0 : len = 0
  · subst h0
    have hg : mGet bs = ([], 12) := by unfold mGet; rw [if_pos (.inl hlen)]
    rw [hg]
    clear hs hlen hg
    go_enter Tryz.func23, Tryz.ntmps23
    go_wp2
    go_ret2
    exact ⟨_, rfl, OwnV.nil_ _ _ _, Below.refl _ _⟩
  · obtain ⟨b, o, rfl, hb, hc⟩ := hs.at_ (by omega)
    have c0 : w.cell? ⟨b, o, none⟩ = some (.int .u8 ((bs.getD 0 0 : Nat) : Int)) := hc 0 (by omega)
    have l0 : bs.getD 0 0 < 256 := by rw [List.getD_eq_getElem?_getD, List.getElem?_eq_getElem (by omega)]; exact hs.byte _ (List.getElem_mem _)
    have n0 : 0 < len := by omega
    have z0 : ((len : Int) == 0) = false := by simp; omega
    have z1 : ¬ ((len : Int) = 0) := by omega
    have HG : Hid (mGet bs = if len = 0 ∨ len ≠ 5 + 4 * bs.getD 0 0 then ([], 12) else if val (bs.drop (len - 4)) ≠ more 0 (bs.take (len - 4)) then ([], 14) else if mOk (mList bs) = true then (mList bs, 0) else ([], 12)) := by show _ = _; unfold mGet; rw [hlen]
    have HLs : Hid (mList bs = (List.range (bs.getD 0 0)).map (mNum bs)) := rfl
    have HS := Lib.hid hs
    generalize bs.getD 0 0 = b0 at *
    have w0 : IntKind.i64.wrap (b0 : Int) = (b0 : Int) := by rw [IntKind.wrap_i64]; omega
    have SZ := Lib.hid (msize_any b0 (by omega) w)
    obtain ⟨q, hq⟩ : ∃ q, q = 5 + 4 * b0 := ⟨_, rfl⟩
    rw [← hq] at SZ
    have Hq := Lib.hid hq
    clear hs hc hlen
    by_cases hlq : len = q
    · subst hlq
      have Hlq := Lib.hid hq
      clear hq
      obtain ⟨m, hm⟩ : ∃ m, m = len - 4 := ⟨_, rfl⟩
      have hm4 : m + 4 = len := by have := Hlq.out; omega
      have s4 : IntKind.i64.wrap ((len : Int) - 4) = (m : Int) := by rw [IntKind.wrap_i64]; omega
      obtain ⟨a4, ha4⟩ : ∃ a4, a4 = fromA (some ⟨b, o, none⟩) cap m := ⟨_, rfl⟩
      have kcut : ∀ x, (Instr.slice 32 (.slice (some ⟨b, o, none⟩) len cap) none (some (.int .i64 (m : Int))) none).run Tryz.prog x = .ok (.slice (some ⟨b, o, none⟩) m cap) x := run_cut_to (P := Tryz.prog) 32 5 Tryz.underlying32 info_u8 _ len cap m (by omega)
      obtain ⟨c4, hc4⟩ : ∃ c4, c4 = cap - m := ⟨_, rfl⟩
      have kfrom : ∀ x, (Instr.slice 32 (.slice (some ⟨b, o, none⟩) len cap) (some (.int .i64 (m : Int))) none none).run Tryz.prog x = .ok (.slice a4 4 c4) x := fun x => by
        have := run_cut_from (P := Tryz.prog) 32 5 Tryz.underlying32 info_u8 (some ⟨b, o, none⟩) len cap m (by omega) x
        rw [this, ha4, hc4, show len - m = 4 from by omega]
        rfl
      have S4 : Sl w w.heap.size a4 4 c4 (bs.drop m) := by
        have := HS.out.from_ (k := m) (by omega)
        rw [← ha4, ← hc4, show len - m = 4 from by omega] at this
        exact this
      have SM : Sl w w.heap.size (some ⟨b, o, none⟩) m cap (bs.take m) := HS.out.take (by omega)
      have RD := Lib.hid (fun (x : World) (hx : Below w.heap.size w x) => mread_any a4 4 c4 (bs.drop m) x ((S4.below hx (Nat.le_refl _)).more hx.size) (Nat.le_refl _))
      have OF := Lib.hid (fun (x : World) (hx : Below w.heap.size w x) => of_from (B := w.heap.size) (Nat.le_refl _) SM x hx)
      have ht4 : (bs.drop m).take 4 = bs.drop m := by rw [List.take_of_length_le (by have := S4.length; omega)]
      rw [ht4] at RD
      rw [← hm] at HG
      have hv4 : val (bs.drop m) < 4294967296 := by
        have := val_lt (bs.drop m) S4.byte
        rw [S4.length] at this
        simpa using this
      have hmo := more_lt 0 (bs.take m)
      generalize val (bs.drop m) = x4 at *
      generalize more 0 (bs.take m) = y4 at *
      clear S4 SM ht4 ha4 hc4 hm
      go_enter Tryz.func23, Tryz.ntmps23
      go_wp2_with fail
      refine SZ.out.mono ?_
      rintro e w1 ⟨rfl, rfl⟩
      go_wp2_with fail
      refine wp_region_held_drew (S := fun x => x.cell? ⟨b, o, none⟩ = some (.int .u8 (b0 : Int))) (by kernel_rfl) c0 (fun hHeld => ?_)
      refine wpAnyH_take (i := 0) (v := ?_) rfl (by kernel_rfl) (by kernel_rfl) (by kernel_rfl) (fun _ _ _ h => h) (Or.inl ⟨by rfl, ?_⟩) (by assumption) ?_
      rotate_left
      · intro w hSw
        (try dsimp only at hSw)
        go_simp
        all_goals with_reducible rfl
      try simp only [Act.put, List.getElem_toArray, List.getElem_cons_succ, List.getElem_cons_zero, List.setIfInBounds_toArray, List.set_cons_zero, List.set_cons_succ]
      refine wpAnyH_take (i := 1) (v := ?_) rfl (by kernel_rfl) (by kernel_rfl) (by kernel_rfl) (fun _ _ _ h => h) (Or.inl ⟨by rfl, ?_⟩) (by assumption) ?_
      rotate_left
      · intro w hSw
        (try dsimp only at hSw)
        go_simp
        all_goals with_reducible rfl
      try simp only [Act.put, List.getElem_toArray, List.getElem_cons_succ, List.getElem_cons_zero, List.setIfInBounds_toArray, List.set_cons_zero, List.set_cons_succ]
      refine wpAnyH_take (i := 2) (v := ?_) rfl (by kernel_rfl) (by kernel_rfl) (by kernel_rfl) (fun _ _ _ h => h) (Or.inl ⟨by rfl, ?_⟩) (by assumption) ?_
      rotate_left
      · intro w hSw
        (try dsimp only at hSw)
        go_simp
        all_goals with_reducible rfl
      try simp only [Act.put, List.getElem_toArray, List.getElem_cons_succ, List.getElem_cons_zero, List.setIfInBounds_toArray, List.set_cons_zero, List.set_cons_succ]
      refine wpAnyH_take (i := 3) (v := ?_) rfl (by kernel_rfl) (by kernel_rfl) (by kernel_rfl) (fun _ _ _ h => h) (Or.inl ⟨by rfl, ?_⟩) (by assumption) ?_
      rotate_left
      · intro w hSw
        (try dsimp only at hSw)
        go_simp
        all_goals with_reducible rfl
      try simp only [Act.put, List.getElem_toArray, List.getElem_cons_succ, List.getElem_cons_zero, List.setIfInBounds_toArray, List.set_cons_zero, List.set_cons_succ]
      refine wpAnyH_take (i := 4) (v := ?_) rfl (by kernel_rfl) (by kernel_rfl) (by kernel_rfl) (fun _ _ _ h => h) (Or.inl ⟨by rfl, ?_⟩) (by assumption) ?_
      rotate_left
      · intro w hSw
        (try dsimp only at hSw)
        go_simp
        all_goals with_reducible rfl
      try simp only [Act.put, List.getElem_toArray, List.getElem_cons_succ, List.getElem_cons_zero, List.setIfInBounds_toArray, List.set_cons_zero, List.set_cons_succ]
      refine wpAnyH_take (i := 5) (v := ?_) rfl (by kernel_rfl) (by kernel_rfl) (by kernel_rfl) (fun _ _ _ h => h) (Or.inl ⟨by rfl, ?_⟩) (by assumption) ?_
      rotate_left
      · intro w hSw
        (try dsimp only at hSw)
        go_simp
        all_goals with_reducible rfl
      try simp only [Act.put, List.getElem_toArray, List.getElem_cons_succ, List.getElem_cons_zero, List.setIfInBounds_toArray, List.set_cons_zero, List.set_cons_succ]
      refine wpAnyH_take (i := 6) (v := ?_) rfl (by kernel_rfl) (by kernel_rfl) (by kernel_rfl) (fun _ _ _ h => h) (Or.inl ⟨by rfl, ?_⟩) (by assumption) ?_
      rotate_left
      · intro w hSw
        (try dsimp only at hSw)
        go_simp
        all_goals with_reducible rfl
      try simp only [Act.put, List.getElem_toArray, List.getElem_cons_succ, List.getElem_cons_zero, List.setIfInBounds_toArray, List.set_cons_zero, List.set_cons_succ]
      refine wpAnyH_take (i := 7) (v := ?_) rfl (by kernel_rfl) (by kernel_rfl) (by kernel_rfl) (fun _ _ _ h => h) (Or.inl ⟨by rfl, ?_⟩) (by assumption) ?_
      rotate_left
      · intro w hSw
        (try dsimp only at hSw)
        go_simp
        all_goals with_reducible rfl
      try simp only [Act.put, List.getElem_toArray, List.getElem_cons_succ, List.getElem_cons_zero, List.setIfInBounds_toArray, List.set_cons_zero, List.set_cons_succ]
      refine wpAnyH_take (i := 8) (v := ?_) rfl (by kernel_rfl) (by kernel_rfl) (by kernel_rfl) (fun _ _ _ h => h) (Or.inl ⟨by rfl, ?_⟩) (by assumption) ?_
      rotate_left
      · intro w hSw
        (try dsimp only at hSw)
        go_simp
        all_goals with_reducible rfl
      try simp only [Act.put, List.getElem_toArray, List.getElem_cons_succ, List.getElem_cons_zero, List.setIfInBounds_toArray, List.set_cons_zero, List.set_cons_succ]
      refine wpAnyH_take (i := 9) (v := ?_) rfl (by kernel_rfl) (by kernel_rfl) (by kernel_rfl) (fun _ _ _ h => h) (Or.inl ⟨by rfl, ?_⟩) (by assumption) ?_
      rotate_left
      · intro w hSw
        (try dsimp only at hSw)
        go_simp
        all_goals with_reducible rfl
      try simp only [Act.put, List.getElem_toArray, List.getElem_cons_succ, List.getElem_cons_zero, List.setIfInBounds_toArray, List.set_cons_zero, List.set_cons_succ]
      refine wpAnyH_take (i := 10) (v := ?_) rfl (by kernel_rfl) (by kernel_rfl) (by kernel_rfl) (fun _ _ _ h => h) (Or.inl ⟨by rfl, ?_⟩) (by assumption) ?_
      rotate_left
      · intro w hSw
        (try dsimp only at hSw)
        go_simp
        all_goals with_reducible rfl
      try simp only [Act.put, List.getElem_toArray, List.getElem_cons_succ, List.getElem_cons_zero, List.setIfInBounds_toArray, List.set_cons_zero, List.set_cons_succ]
      refine wpAnyH_take (i := 11) (v := ?_) rfl (by kernel_rfl) (by kernel_rfl) (by kernel_rfl) (fun _ _ _ h => h) (Or.inl ⟨by rfl, ?_⟩) (by assumption) ?_
      rotate_left
      · intro w hSw
        (try dsimp only at hSw)
        go_simp
        all_goals with_reducible rfl
      try simp only [Act.put, List.getElem_toArray, List.getElem_cons_succ, List.getElem_cons_zero, List.setIfInBounds_toArray, List.set_cons_zero, List.set_cons_succ]
      refine wpAnyH_done (by kernel_rfl) ?_ _
      clear hHeld
      have hBd : Below w.heap.size w w.drew := Below.drew (Below.refl _ _)
      have Hd := Lib.hid hBd
      go_wp2_with fail
      refine (RD.out _ hBd).mono ?_
      rintro e w2 ⟨rfl, hb2⟩
      have hB2 := hBd.trans (hb2.mono hBd.size)
      have HB2 := Lib.hid hB2
      clear hb2 hBd hB2 kcut kfrom s4
      go_wp2_with fail
      refine (OF.out _ HB2.out).mono ?_
      rintro e w3 ⟨rfl, hb3⟩
      have c3 := (hb3.cell (p := ⟨b, o, none⟩) hb).trans c0
      have HB3 := Lib.hid hb3
      clear hb3 HB2 RD OF SZ c0
      by_cases hxy : x4 = y4
      · subst hxy
        have hg : Hid (mGet bs = if mOk (mList bs) = true then (mList bs, 0) else ([], 12)) := by
          show _ = _
          rw [HG.out, if_neg (by have := Hlq.out; omega), if_neg (by simp)]
        obtain ⟨i8, hi8, hz0, hz1, hz2⟩ := info_parts info_i64m
        clear HG hv4 hmo
        go_wp2_with (first
          | (at_make; refine wpList_make_full _ rfl (.tmp 38) (.tmp 38) 23 rfl w.heap.size 2 i8 (.int .i64 0) 1 Tryz.underlying23 hi8 hz0 hz1 .u8 .u8 _ _ b0 rfl rfl rfl rfl (by rw [hz2]; omega) (by unfold maxLen; omega) HB3.out.size ?_; intro w4 hown hg4; have ho4 := OwnV.made rfl hown; have hB4 : Below w.heap.size w w4 := HB3.out.grown hg4 HB3.out.size (fun k hk => by cases hk); have H4 := Lib.hid (And.intro ho4 hB4); clear hown hg4 ho4 hB4)
          | fail)
        obtain ⟨g, hgg⟩ : ∃ g, g = w3.heap.size := ⟨_, rfl⟩
        rw [← hgg] at H4 ⊢
        have hgw : w.heap.size ≤ g := by have := HB3.out.size; omega
        clear hgg
        go_loopw [7, 42] (fun _ i wr => ∃ (k : Nat) (us : List Value), k ≤ b0 ∧ i = .int .i64 (k : Int) ∧ us.length = b0 ∧ (∀ j, j < k → us[j]? = some (.int .i64 (mNum bs j))) ∧
          OwnV wr w.heap.size 2 (.slice (some ⟨g, 0, none⟩) b0 b0) us ∧ Below w.heap.size w wr) (fun _ i _ => b0 - (intOf i).toNat)
        case atStart => exact ⟨0, _, Nat.zero_le _, rfl, List.length_replicate, fun j hj => by omega, H4.out.1, H4.out.2⟩
        case round =>
          obtain ⟨k, us, hk, rfl, hul, huj, how, hB⟩ := hrel
          by_cases hlt : k < b0
          · have hkc := OwnV.cell how (k := k) (List.getElem?_eq_getElem (by omega))
            obtain ⟨p, hp⟩ : ∃ p, p = 1 + 4 * k := ⟨_, rfl⟩
            have hpl : p + 4 ≤ len := by have := Hlq.out; omega
            have v1 : IntKind.i64.wrap ((k : Int) * 4) = (k : Int) * 4 := by rw [IntKind.wrap_i64]; omega
            have v2 : IntKind.i64.wrap (1 + (k : Int) * 4) = (p : Int) := by rw [IntKind.wrap_i64]; omega
            obtain ⟨aa, haa⟩ : ∃ aa, aa = fromA (some ⟨b, o, none⟩) cap p := ⟨_, rfl⟩
            obtain ⟨nn, hnn⟩ : ∃ nn, nn = len - p := ⟨_, rfl⟩
            obtain ⟨cc, hcc⟩ : ∃ cc, cc = cap - p := ⟨_, rfl⟩
            have kf : ∀ x, (Instr.slice 32 (.slice (some ⟨b, o, none⟩) len cap) (some (.int .i64 (p : Int))) none none).run Tryz.prog x = .ok (.slice aa nn cc) x := fun x => by
              have := run_cut_from (P := Tryz.prog) 32 5 Tryz.underlying32 info_u8 (some ⟨b, o, none⟩) len cap p (by omega) x
              rw [this, haa, hnn, hcc]
              rfl
            have SP : Sl w w.heap.size aa nn cc (bs.drop p) := by
              have := HS.out.from_ (k := p) (by omega)
              rw [← haa, ← hnn, ← hcc] at this
              exact this
            have RP := Lib.hid (mread_any aa nn cc (bs.drop p) wr ((SP.below hB (Nat.le_refl _)).more hB.size) (by omega))
            have hvl : val ((bs.drop p).take 4) < 4294967296 := by
              have h1 := val_lt ((bs.drop p).take 4) (fun c hc => SP.byte c (List.mem_of_mem_take hc))
              have h2 : ((bs.drop p).take 4).length = 4 := by rw [List.length_take, SP.length]; omega
              rw [h2] at h1
              simpa using h1
            have Hn : Hid (mNum bs k = ((val ((bs.drop p).take 4) : Nat) : Int)) := by show _ = _; unfold mNum; rw [hp]
            generalize val ((bs.drop p).take 4) = z at *
            have v3 : IntKind.i64.wrap ((z : Nat) : Int) = (z : Int) := by rw [IntKind.wrap_i64]; omega
            have Hr := Lib.hid (And.intro huj (And.intro how hB))
            clear SP huj how hB haa hnn hcc hp
            go_wp2_with fail
            refine RP.out.mono ?_
            rintro e w5 ⟨rfl, hb5⟩
            obtain ⟨huj, how, hB⟩ := Hr.out
            have how5 := how.kept (grown_of_below hb5 none) (by simp)
            have hkc5 := OwnV.cell how5 (k := k) (List.getElem?_eq_getElem (by omega))
            have hB5 := hB.trans (hb5.mono hB.size)
            have H5 := Lib.hid (And.intro huj (And.intro how5 hB5))
            clear huj how hB how5 hB5 hb5 Hr hkc RP
            go_wp2
            obtain ⟨huj, how5, hB5⟩ := H5.out
            refine ⟨⟨k + 1, us.set k (.int .i64 (z : Int)), by omega, by go_num, by rw [List.length_set]; exact hul, ?_, how5.set_ k _, hB5.setCell (p := ⟨g, k, none⟩) hgw _⟩, by simp [intOf]; omega⟩
            intro j hj
            rw [List.getElem?_set]
            by_cases e : k = j
            · subst e
              rw [if_pos rfl, if_pos (by omega), Hn.out]
            · rw [if_neg e]
              exact huj j (by omega)
          · have hkb : k = b0 := by omega
            subst hkb
            have hus : us = i64V (mList bs) := by
              rw [HLs.out]
              apply List.ext_getElem?
              intro j
              by_cases hj : j < k
              · rw [huj j hj, List.getElem?_map, List.getElem?_map, List.getElem?_range hj]
                rfl
              · rw [List.getElem?_eq_none (by omega), List.getElem?_eq_none (by simp; omega)]
            subst hus
            have RT := Lib.hid (mright_any (mList bs) (some ⟨g, 0, none⟩) k k wr (row_own how) (by rw [List.length_map] at hul; exact hul))
            have Hr := Lib.hid (And.intro how hB)
            clear huj how hB hul HLs
            generalize hok : mOk (mList bs) = ok at *
            have Hok := Lib.hid hok
            clear hok
            go_wp2_with fail
            refine RT.out.mono ?_
            rintro e w6 ⟨rfl, rfl⟩
            cases ok
            · go_wp2
              go_ret2
              exact ⟨.slice none 0 0, by rw [hg.out, if_neg (by simp)]; rfl, by rw [hg.out, if_neg (by simp)]; exact OwnV.nil_ _ _ _, Hr.out.2⟩
            · go_wp2
              go_ret2
              exact ⟨.slice (some ⟨g, 0, none⟩) k k, by rw [hg.out, if_pos trivial]; rfl, by rw [hg.out, if_pos trivial]; exact Hr.out.1, Hr.out.2⟩
      · have hxy2 : ((x4 : Int) == (y4 : Int)) = false := by simp; omega
        have hg : Hid (mGet bs = ([], 14)) := by
          show _ = _
          rw [HG.out, if_neg (by have := Hlq.out; omega), if_pos hxy]
        go_wp2
        go_ret2
        exact ⟨.slice none 0 0, by rw [hg.out]; rfl, by rw [hg.out]; exact OwnV.nil_ _ _ _, HB3.out⟩
    · have hlq2 : ((len : Int) == (q : Int)) = false := by simp; omega
      have hg : Hid (mGet bs = ([], 12)) := by show _ = _; rw [HG.out, if_pos (.inr (by have := Hq.out; omega))]
      clear hq
      go_enter Tryz.func23, Tryz.ntmps23
      go_wp2_with fail
      refine SZ.out.mono ?_
      rintro e w1 ⟨rfl, rfl⟩
      go_wp2
      go_ret2
      exact ⟨.slice none 0 0, by rw [hg.out]; rfl, by rw [hg.out]; exact OwnV.nil_ _ _ _, Below.refl _ _⟩
end
section
open Go.RowKit Go.Sort
open Crc Frm
attribute [local go_sem] Oper.semAt_some

/-- The files' names. -/
def mfS : ByteArray := ⟨#[109, 97, 110, 105, 102, 101, 115, 116]⟩
def nxS : ByteArray := ⟨#[109, 97, 110, 105, 102, 101, 115, 116, 46, 116, 109, 112]⟩
def mfL : List UInt8 := [109, 97, 110, 105, 102, 101, 115, 116]
def nxL : List UInt8 := [109, 97, 110, 105, 102, 101, 115, 116, 46, 116, 109, 112]
theorem OwnV.mono {w : World} {base base' : Nat} {e : TypeId} {v : Value} {us : List Value} (h : OwnV w base e v us) (hb : base' ≤ base) : OwnV w base' e v us := by
  refine ⟨h.1, ?_⟩
  rcases h.2 with h1 | ⟨g, cap, cur, hv, h1, h2⟩
  · exact .inl h1
  · exact .inr ⟨g, cap, cur, hv, Nat.le_trans hb h1, h2⟩
theorem Mv.still {w0 w w' : World} {dp : Nat} {O : Nat → Prop} {t : St} (h : DK w0 w dp t O) (hb : Below w.heap.size w w') : Mv w0 w dp O t w' := ⟨O, h.on hb, But.of_below hb, fun _ hk => .inl hk⟩
theorem Mv.behind {w0 w w1 w' : World} {dp : Nat} {O : Nat → Prop} {t : St} (hb : Below w.heap.size w w1) (h : Mv w0 w1 dp O t w') : Mv w0 w dp O t w' := by
  obtain ⟨O', h1, h2, h3⟩ := h
  exact ⟨O', h1, (But.of_below hb).trans h2 (fun _ hi => .inl hi), fun k hk => by rcases h3 k hk with h4 | h4; exact .inl h4; exact .inr (Nat.le_trans hb.size h4)⟩

/-- What Load tells. -/
def mLoad (t : St) : List Int × Nat := match fat t.D mfL with | none => ([], 3) | some f => mGet f.bs
set_option linter.unusedSimpArgs false in
set_option maxRecDepth 100000 in
set_option maxHeartbeats 3200000 in
theorem mload_any {w0 w : World} {dp : Nat} {t : St} {O : Nat → Prop} (h : DK w0 w dp t O) :
    Calls Tryz.prog 12 #[.pointer (some ⟨dp, 0, none⟩)] w fun e w' => ∃ v, e = .returned (.tuple #[v, .int .i64 (((mLoad t).2 : Nat) : Int)]) ∧ OwnV w' w.heap.size 2 v (i64V (mLoad t).1) ∧ Below w.heap.size w w' := by
  have RD := h.read mfS (by decide)
  have HF := fat_byte h.good mfL
  have HK := Lib.hid h
  change Calls _ _ _ _ (NewBytes w ((fat t.D mfL).getD Fl.zero).bs (fat t.D mfL).isSome) at RD
  have hb9 : ∀ f, fat t.D mfL = some f → f.bs.length ≤ 2000000 := fun f hf => by have := (h.good.at_ hf).2.2.2; have := h.good.tot_; have := h.good.room_; omega
  have HL : Hid (mLoad t = match fat t.D mfL with | none => ([], 3) | some f => mGet f.bs) := rfl
  have HF := Lib.hid HF
  clear h
  unfold mfS at RD
  cases hf : fat t.D mfL with
  | none =>
    rw [hf] at RD HL HF
    have RD := Lib.hid RD
    have hg : Hid (mLoad t = ([], 3)) := HL.out
    clear HL hb9 hf
    go_enter Tryz.func12, Tryz.ntmps12
    go_wp2_with fail
    refine RD.out.mono ?_
    rintro e w1 hN
    obtain ⟨x, xc, rfl, _, _, hb⟩ := NewBytes.out HK.out hN HF.out
    have HB := Lib.hid hb
    clear hN hb RD
    go_wp2
    go_ret2
    exact ⟨.slice none 0 0, by rw [hg.out]; rfl, by rw [hg.out]; exact OwnV.nil_ _ _ _, HB.out⟩
  | some f =>
    rw [hf] at RD HL HF
    have hl := hb9 f hf
    have RD := Lib.hid RD
    have hg : Hid (mLoad t = mGet f.bs) := HL.out
    clear HL hb9 hf
    go_enter Tryz.func12, Tryz.ntmps12
    go_wp2_with fail
    refine RD.out.mono ?_
    rintro e w1 hN
    obtain ⟨x, xc, rfl, hxs, _, hb⟩ := NewBytes.out HK.out hN HF.out
    have GT := Lib.hid (mget_any x f.bs.length xc f.bs w1 hxs hl)
    have HB := Lib.hid hb
    clear hN hb RD hxs
    go_wp2_with fail
    refine GT.out.mono ?_
    rintro e w2 ⟨v, rfl, hv, hb2⟩
    have H2 := Lib.hid (And.intro (hv.mono HB.out.size) (HB.out.trans (hb2.mono HB.out.size)))
    clear hv hb2 GT
    go_wp2
    go_ret2
    exact ⟨v, by rw [hg.out]; rfl, by rw [hg.out]; exact H2.out.1, H2.out.2⟩

/-- What deleteNext tells and leaves. -/
def delNext (t : St) : Int × St := if (fat t.D nxL).isSome = true then t.delete nxL else (0, t)
set_option linter.unusedSimpArgs false in
set_option maxRecDepth 100000 in
set_option maxHeartbeats 3200000 in
theorem delnext_any {w0 w : World} {dp : Nat} {t : St} {O : Nat → Prop} (h : DK w0 w dp t O) :
    Calls Tryz.prog 42 #[.pointer (some ⟨dp, 0, none⟩)] w fun e w' => e = .returned (.int .i64 (delNext t).1) ∧ Mv w0 w dp O (delNext t).2 w' := by
  have RD := h.read nxS (by decide)
  have HF := Lib.hid (fat_byte h.good nxL)
  have HK := Lib.hid h
  change Calls _ _ _ _ (NewBytes w ((fat t.D nxL).getD Fl.zero).bs (fat t.D nxL).isSome) at RD
  have DL := Lib.hid (fun (x : World) (hx : Below w.heap.size w x) => (HK.out.on hx).delete nxS (by decide))
  have HD : Hid (delNext t = if (fat t.D nxL).isSome = true then t.delete nxL else (0, t)) := rfl
  clear h
  unfold nxS at RD DL
  have RD := Lib.hid RD
  generalize (fat t.D nxL).isSome = is at *
  go_enter Tryz.func42, Tryz.ntmps42
  go_wp2_with fail
  refine RD.out.mono ?_
  rintro e w1 hN
  obtain ⟨x, xc, rfl, _, _, hb⟩ := NewBytes.out HK.out hN HF.out
  have HB := Lib.hid hb
  clear hN hb RD
  cases is with
  | false =>
    have hd : Hid (delNext t = (0, t)) := HD.out
    go_wp2
    go_ret
    exact ⟨by rw [hd.out]; rfl, by rw [hd.out]; exact Mv.still HK.out HB.out⟩
  | true =>
    have hd : Hid (delNext t = t.delete nxL) := HD.out
    go_wp2_with fail
    refine (DL.out _ HB.out).mono ?_
    rintro e w2 ⟨rfl, hmv⟩
    have HM := Lib.hid (Mv.behind HB.out hmv)
    clear hmv DL
    go_wp2
    go_ret
    exact ⟨by rw [hd.out]; rfl, by rw [hd.out]; exact HM.out⟩
end
end Go.Proofs.YtohiheohndmccaaGreat
