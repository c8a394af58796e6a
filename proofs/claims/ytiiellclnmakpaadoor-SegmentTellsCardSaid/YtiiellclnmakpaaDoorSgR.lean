/- Contracts of the program's segment: write, Head, read, readHead, Read. -/
import Derived.Test.YtiiellclnmakpaaDoorSgN
import Derived.Test.YtiiellclnmakpaaDoorFrI
import Derived.Test.YtiiellclnmakpaaDoorAp
import Derived.Test.YtiiellclnmakpaaDoorApF
import Derived.Lib.SlBytesConst
import Derived.Test.YtiiellclnmakpaaDoorHeld
import Derived.Lib.EndianBits
import Derived.Deep.QuietTactic
import Derived.BigQuiet
namespace Go.Proofs.YtiiellclnmakpaaDoor
open Go.RowKit
open Crc Frm

theorem be4_cells (n : Nat) (hn : n < 4294967296) : (#[Value.int .u8 ((n : Int) / 16777216), .int .u8 ((n : Int) / 65536 % 256), .int .u8 ((n : Int) / 256 % 256), .int .u8 ((n : Int) % 256)] : Array Value) = ((be 4 n).map fun c => Value.int .u8 ((c : Nat) : Int)).toArray := by
  have e0 : (n : Int) / 16777216 = (((n / 256 ^ 3 % 256 : Nat)) : Int) := by omega
  have e1 : (n : Int) / 65536 % 256 = (((n / 256 ^ 2 % 256 : Nat)) : Int) := by omega
  have e2 : (n : Int) / 256 % 256 = (((n / 256 ^ 1 % 256 : Nat)) : Int) := by omega
  have e3 : (n : Int) % 256 = (((n / 256 ^ 0 % 256 : Nat)) : Int) := by omega
  rw [e0, e1, e2, e3]
  rfl

set_option maxRecDepth 100000 in
set_option maxHeartbeats 800000 in
theorem swrite_any (v : Value) (bs : List Nat) (base n : Nat) (hn : n < 4294967296) (w : World) (ho : OwnB w base 5 v bs) (hb : base ≤ w.heap.size) (hlen : bs.length ≤ 1000) :
    Calls Tryd.prog 28 #[v, .int .u32 (n : Int)] w fun e w' => ∃ v', e = .returned v' ∧ OwnB w' base 5 v' (bs ++ be 4 n) ∧ Below base w w' := by
  go_enter Tryd.func28, Tryd.ntmps28
  go_wp2_with (at_builtin; refine wpList_append_sl rfl (.tmp 5) (.tmp 17) _ rfl base _ Tryd.underlying22 info_u8 v bs rfl (ho.alloc _) _ (some ⟨w.heap.size, 0, none⟩) 4 4 (be 4 n) rfl (Sl.new (heap_alloc_new w _) (by rw [be4_cells n hn]) (be_byte 4 n) 4 rfl (by rw [be_len]; decide)) (by omega) (by simp; omega) ?_; intro v1 w1 ho1 hg1 hat1)
  go_ret
  exact ⟨_, rfl, ho1, ((Below.refl _ _).alloc hb _).grown hg1 (by simp; omega) (fun k hk => (ho.at_base hk).1)⟩
set_option maxRecDepth 100000 in
set_option maxHeartbeats 800000 in
theorem swrite_full (A : Addr) (m : Nat) (bs : List Nat) (n : Nat) (hn : n < 4294967296) (w : World) (hs : Sl w w.heap.size (some A) m m bs) (hm : m ≤ 1000) :
    Calls Tryd.prog 28 #[.slice (some A) m m, .int .u32 (n : Int)] w fun e w' => ∃ v', e = .returned v' ∧ OwnB w' w.heap.size 5 v' (bs ++ be 4 n) ∧ Below w.heap.size w w' := by
  go_enter Tryd.func28, Tryd.ntmps28
  go_wp2_with (at_builtin; refine wpList_append_full rfl (.tmp 5) (.tmp 17) _ rfl _ Tryd.underlying22 info_u8 _ A m bs rfl (hs.below ((Below.refl _ w).alloc (Nat.le_refl _) _) (Nat.le_refl _)) _ ⟨w.heap.size, 0, none⟩ 4 4 (be 4 n) rfl (Sl.new (heap_alloc_new w _) (by rw [be4_cells n hn]) (be_byte 4 n) 4 rfl (by rw [be_len]; decide)) (by decide) (by omega) ?_; intro v1 w1 ho1 hB1)
  go_ret
  exact ⟨_, rfl, ho1.mono (by simp), ((Below.refl _ _).alloc (Nat.le_refl _) _).trans (hB1.mono (by simp))⟩

set_option linter.unusedSimpArgs false in
set_option maxRecDepth 100000 in
set_option maxHeartbeats 800000 in
theorem sread_any (a : Option Addr) (len cap : Nat) (bs : List Nat) (w : World) (hs : Sl w w.heap.size a len cap bs) (h4 : 4 ≤ len) :
    Calls Tryd.prog 37 #[.slice a len cap] w fun e w' => e = .returned (.int .u32 ((val (bs.take 4) : Nat) : Int)) ∧ Below w.heap.size w w' := by
  obtain ⟨b, o, rfl, hb, hc⟩ := hs.at_ (by omega)
  have c0 := hc 0 (by omega)
  have c1 := hc 1 (by omega)
  have c2 := hc 2 (by omega)
  have c3 := hc 3 (by omega)
  have b0 := hs.lt (k := 0) (by omega)
  have b1 := hs.lt (k := 1) (by omega)
  have b2 := hs.lt (k := 2) (by omega)
  have b3 := hs.lt (k := 3) (by omega)
  have i0 : 0 < len := by omega
  have i1 : (1 : Int) < (len : Int) := by omega
  have i2 : (2 : Int) < (len : Int) := by omega
  have i3 : (3 : Int) < (len : Int) := by omega
  have Hv : Hid (val (bs.take 4) = ((bs.getD 0 0 * 256 + bs.getD 1 0) * 256 + bs.getD 2 0) * 256 + bs.getD 3 0) := by
    show _ = _
    have hl := hs.length
    match bs, hl with
    | x :: y :: z :: u :: t, _ => simp [val]
    | [x, y, z], hl => simp at hl; omega
    | [x, y], hl => simp at hl; omega
    | [x], hl => simp at hl; omega
    | [], hl => simp at hl; omega
  generalize val (bs.take 4) = z at *
  generalize bs.getD 0 0 = x0 at *
  generalize bs.getD 1 0 = x1 at *
  generalize bs.getD 2 0 = x2 at *
  generalize bs.getD 3 0 = x3 at *
  clear hc hs
  have hw0 : IntKind.u32.wrap (x0 : Int) = (x0 : Int) := wraps_u32 _ (by omega) (by omega)
  have hw1 : IntKind.u32.wrap (x1 : Int) = (x1 : Int) := wraps_u32 _ (by omega) (by omega)
  have hw2 : IntKind.u32.wrap (x2 : Int) = (x2 : Int) := wraps_u32 _ (by omega) (by omega)
  have hw3 : IntKind.u32.wrap (x3 : Int) = (x3 : Int) := wraps_u32 _ (by omega) (by omega)
  have hm0 : IntKind.u32.wrap ((x0 : Int) * 16777216) = (x0 : Int) * 16777216 := wraps_u32 _ (by omega) (by omega)
  have hm1 : IntKind.u32.wrap ((x1 : Int) * 65536) = (x1 : Int) * 65536 := wraps_u32 _ (by omega) (by omega)
  have hm2 : IntKind.u32.wrap ((x2 : Int) * 256) = (x2 : Int) * 256 := wraps_u32 _ (by omega) (by omega)
  have e1 : bits .or .u32 ((x0 : Int) * 16777216) ((x1 : Int) * 65536) = (x0 : Int) * 16777216 + (x1 : Int) * 65536 := bits_join .u32 32 (by decide) wraps_u32 24 _ _ (by omega) (by omega) (by omega) (by omega) (by omega) (by omega)
  have e2 : bits .or .u32 ((x0 : Int) * 16777216 + (x1 : Int) * 65536) ((x2 : Int) * 256) = (x0 : Int) * 16777216 + (x1 : Int) * 65536 + (x2 : Int) * 256 := bits_join .u32 32 (by decide) wraps_u32 16 _ _ (by omega) (by omega) (by omega) (by omega) (by omega) (by omega)
  have e3 : bits .or .u32 ((x0 : Int) * 16777216 + (x1 : Int) * 65536 + (x2 : Int) * 256) (x3 : Int) = (z : Int) := (bits_join .u32 32 (by decide) wraps_u32 8 _ _ (by omega) (by omega) (by omega) (by omega) (by omega) (by omega)).trans (by have := Hv.out; omega)
  go_enter Tryd.func37, Tryd.ntmps37
  go_wp2_with fail
  refine wp_region_held_drew (S := fun w' => w'.cell? ⟨b, o, none⟩ = some (.int .u8 (x0 : Int)) ∧ w'.cell? ⟨b, o + 1, none⟩ = some (.int .u8 (x1 : Int)) ∧ w'.cell? ⟨b, o + 2, none⟩ = some (.int .u8 (x2 : Int)) ∧ w'.cell? ⟨b, o + 3, none⟩ = some (.int .u8 (x3 : Int))) (by kernel_rfl) ⟨c0, c1, c2, c3⟩ (fun hHeld => ?_)
  refine wpAnyH_take (i := 0) (v := ?_) rfl (by kernel_rfl) (by kernel_rfl) (by kernel_rfl) (fun _ _ _ h => h) (Or.inl ⟨by rfl, ?_⟩) (by assumption) ?_
  rotate_left
  · intro w hSw
    (try dsimp only at hSw)
    go_simp
    all_goals with_reducible rfl
  try simp only [Act.put, List.getElem_toArray, List.getElem_cons_succ, List.getElem_cons_zero, List.setIfInBounds_toArray, List.set_cons_zero, List.set_cons_succ]
  refine wpAnyH_take (i := 1) (v := ?_) rfl (by kernel_rfl) (by kernel_rfl) (by kernel_rfl) (fun _ _ _ h => h) (Or.inl ⟨by rfl, ?_⟩) (by assumption) ?_
  rotate_left
  · intro w hSw
    (try dsimp only at hSw)
    go_simp
    all_goals with_reducible rfl
  try simp only [Act.put, List.getElem_toArray, List.getElem_cons_succ, List.getElem_cons_zero, List.setIfInBounds_toArray, List.set_cons_zero, List.set_cons_succ]
  refine wpAnyH_take (i := 2) (v := ?_) rfl (by kernel_rfl) (by kernel_rfl) (by kernel_rfl) (fun _ _ _ h => h) (Or.inl ⟨by rfl, ?_⟩) (by assumption) ?_
  rotate_left
  · intro w hSw
    (try dsimp only at hSw)
    go_simp
    all_goals with_reducible rfl
  try simp only [Act.put, List.getElem_toArray, List.getElem_cons_succ, List.getElem_cons_zero, List.setIfInBounds_toArray, List.set_cons_zero, List.set_cons_succ]
  refine wpAnyH_take (i := 3) (v := ?_) rfl (by kernel_rfl) (by kernel_rfl) (by kernel_rfl) (fun _ _ _ h => h) (Or.inl ⟨by rfl, ?_⟩) (by assumption) ?_
  rotate_left
  · intro w hSw
    (try dsimp only at hSw)
    go_simp
    all_goals with_reducible rfl
  try simp only [Act.put, List.getElem_toArray, List.getElem_cons_succ, List.getElem_cons_zero, List.setIfInBounds_toArray, List.set_cons_zero, List.set_cons_succ]
  refine wpAnyH_take (i := 4) (v := ?_) rfl (by kernel_rfl) (by kernel_rfl) (by kernel_rfl) (fun _ _ _ h => h) (Or.inl ⟨by rfl, ?_⟩) (by assumption) ?_
  rotate_left
  · intro w hSw
    (try dsimp only at hSw)
    go_simp
    all_goals with_reducible rfl
  try simp only [Act.put, List.getElem_toArray, List.getElem_cons_succ, List.getElem_cons_zero, List.setIfInBounds_toArray, List.set_cons_zero, List.set_cons_succ]
  refine wpAnyH_take (i := 5) (v := ?_) rfl (by kernel_rfl) (by kernel_rfl) (by kernel_rfl) (fun _ _ _ h => h) (Or.inl ⟨by rfl, ?_⟩) (by assumption) ?_
  rotate_left
  · intro w hSw
    (try dsimp only at hSw)
    go_simp
    all_goals with_reducible rfl
  try simp only [Act.put, List.getElem_toArray, List.getElem_cons_succ, List.getElem_cons_zero, List.setIfInBounds_toArray, List.set_cons_zero, List.set_cons_succ]
  refine wpAnyH_take (i := 6) (v := ?_) rfl (by kernel_rfl) (by kernel_rfl) (by kernel_rfl) (fun _ _ _ h => h) (Or.inl ⟨by rfl, ?_⟩) (by assumption) ?_
  rotate_left
  · intro w hSw
    (try dsimp only at hSw)
    go_simp
    all_goals with_reducible rfl
  try simp only [Act.put, List.getElem_toArray, List.getElem_cons_succ, List.getElem_cons_zero, List.setIfInBounds_toArray, List.set_cons_zero, List.set_cons_succ]
  refine wpAnyH_take (i := 7) (v := ?_) rfl (by kernel_rfl) (by kernel_rfl) (by kernel_rfl) (fun _ _ _ h => h) (Or.inl ⟨by rfl, ?_⟩) (by assumption) ?_
  rotate_left
  · intro w hSw
    (try dsimp only at hSw)
    go_simp
    all_goals with_reducible rfl
  try simp only [Act.put, List.getElem_toArray, List.getElem_cons_succ, List.getElem_cons_zero, List.setIfInBounds_toArray, List.set_cons_zero, List.set_cons_succ]
  refine wpAnyH_take (i := 8) (v := ?_) rfl (by kernel_rfl) (by kernel_rfl) (by kernel_rfl) (fun _ _ _ h => h) (Or.inl ⟨by rfl, ?_⟩) (by assumption) ?_
  rotate_left
  · intro w hSw
    (try dsimp only at hSw)
    go_simp
    all_goals with_reducible rfl
  try simp only [Act.put, List.getElem_toArray, List.getElem_cons_succ, List.getElem_cons_zero, List.setIfInBounds_toArray, List.set_cons_zero, List.set_cons_succ]
  refine wpAnyH_take (i := 9) (v := ?_) rfl (by kernel_rfl) (by kernel_rfl) (by kernel_rfl) (fun _ _ _ h => h) (Or.inl ⟨by rfl, ?_⟩) (by assumption) ?_
  rotate_left
  · intro w hSw
    (try dsimp only at hSw)
    go_simp
    all_goals with_reducible rfl
  try simp only [Act.put, List.getElem_toArray, List.getElem_cons_succ, List.getElem_cons_zero, List.setIfInBounds_toArray, List.set_cons_zero, List.set_cons_succ]
  refine wpAnyH_take (i := 10) (v := ?_) rfl (by kernel_rfl) (by kernel_rfl) (by kernel_rfl) (fun _ _ _ h => h) (Or.inl ⟨by rfl, ?_⟩) (by assumption) ?_
  rotate_left
  · intro w hSw
    (try dsimp only at hSw)
    go_simp
    all_goals with_reducible rfl
  try simp only [Act.put, List.getElem_toArray, List.getElem_cons_succ, List.getElem_cons_zero, List.setIfInBounds_toArray, List.set_cons_zero, List.set_cons_succ]
  refine wpAnyH_take (i := 11) (v := ?_) rfl (by kernel_rfl) (by kernel_rfl) (by kernel_rfl) (fun _ _ _ h => h) (Or.inl ⟨by rfl, ?_⟩) (by assumption) ?_
  rotate_left
  · intro w hSw
    (try dsimp only at hSw)
    go_simp
    all_goals with_reducible rfl
  try simp only [Act.put, List.getElem_toArray, List.getElem_cons_succ, List.getElem_cons_zero, List.setIfInBounds_toArray, List.set_cons_zero, List.set_cons_succ]
  refine wpAnyH_take (i := 12) (v := ?_) rfl (by kernel_rfl) (by kernel_rfl) (by kernel_rfl) (fun _ _ _ h => h) (Or.inl ⟨by rfl, ?_⟩) (by assumption) ?_
  rotate_left
  · intro w hSw
    (try dsimp only at hSw)
    go_simp
    all_goals with_reducible rfl
  try simp only [Act.put, List.getElem_toArray, List.getElem_cons_succ, List.getElem_cons_zero, List.setIfInBounds_toArray, List.set_cons_zero, List.set_cons_succ]
  refine wpAnyH_take (i := 13) (v := ?_) rfl (by kernel_rfl) (by kernel_rfl) (by kernel_rfl) (fun _ _ _ h => h) (Or.inl ⟨by rfl, ?_⟩) (by assumption) ?_
  rotate_left
  · intro w hSw
    (try dsimp only at hSw)
    go_simp
    all_goals with_reducible rfl
  try simp only [Act.put, List.getElem_toArray, List.getElem_cons_succ, List.getElem_cons_zero, List.setIfInBounds_toArray, List.set_cons_zero, List.set_cons_succ]
  refine wpAnyH_take (i := 14) (v := ?_) rfl (by kernel_rfl) (by kernel_rfl) (by kernel_rfl) (fun _ _ _ h => h) (Or.inl ⟨by rfl, ?_⟩) (by assumption) ?_
  rotate_left
  · intro w hSw
    (try dsimp only at hSw)
    go_simp
    all_goals with_reducible rfl
  try simp only [Act.put, List.getElem_toArray, List.getElem_cons_succ, List.getElem_cons_zero, List.setIfInBounds_toArray, List.set_cons_zero, List.set_cons_succ]
  refine wpAnyH_take (i := 15) (v := ?_) rfl (by kernel_rfl) (by kernel_rfl) (by kernel_rfl) (fun _ _ _ h => h) (Or.inl ⟨by rfl, ?_⟩) (by assumption) ?_
  rotate_left
  · intro w hSw
    (try dsimp only at hSw)
    go_simp
    all_goals with_reducible rfl
  try simp only [Act.put, List.getElem_toArray, List.getElem_cons_succ, List.getElem_cons_zero, List.setIfInBounds_toArray, List.set_cons_zero, List.set_cons_succ]
  refine wpAnyH_take (i := 16) (v := ?_) rfl (by kernel_rfl) (by kernel_rfl) (by kernel_rfl) (fun _ _ _ h => h) (Or.inl ⟨by rfl, ?_⟩) (by assumption) ?_
  rotate_left
  · intro w hSw
    (try dsimp only at hSw)
    go_simp
    all_goals with_reducible rfl
  try simp only [Act.put, List.getElem_toArray, List.getElem_cons_succ, List.getElem_cons_zero, List.setIfInBounds_toArray, List.set_cons_zero, List.set_cons_succ]
  refine wpAnyH_take (i := 17) (v := ?_) rfl (by kernel_rfl) (by kernel_rfl) (by kernel_rfl) (fun _ _ _ h => h) (Or.inl ⟨by rfl, ?_⟩) (by assumption) ?_
  rotate_left
  · intro w hSw
    (try dsimp only at hSw)
    go_simp
    all_goals with_reducible rfl
  try simp only [Act.put, List.getElem_toArray, List.getElem_cons_succ, List.getElem_cons_zero, List.setIfInBounds_toArray, List.set_cons_zero, List.set_cons_succ]
  refine wpAnyH_take (i := 18) (v := ?_) rfl (by kernel_rfl) (by kernel_rfl) (by kernel_rfl) (fun _ _ _ h => h) (Or.inl ⟨by rfl, ?_⟩) (by assumption) ?_
  rotate_left
  · intro w hSw
    (try dsimp only at hSw)
    go_simp
    all_goals with_reducible rfl
  try simp only [Act.put, List.getElem_toArray, List.getElem_cons_succ, List.getElem_cons_zero, List.setIfInBounds_toArray, List.set_cons_zero, List.set_cons_succ]
  refine wpAnyH_take (i := 19) (v := ?_) rfl (by kernel_rfl) (by kernel_rfl) (by kernel_rfl) (fun _ _ _ h => h) (Or.inl ⟨by rfl, ?_⟩) (by assumption) ?_
  rotate_left
  · intro w hSw
    (try dsimp only at hSw)
    go_simp
    all_goals with_reducible rfl
  try simp only [Act.put, List.getElem_toArray, List.getElem_cons_succ, List.getElem_cons_zero, List.setIfInBounds_toArray, List.set_cons_zero, List.set_cons_succ]
  refine wpAnyH_take (i := 20) (v := ?_) rfl (by kernel_rfl) (by kernel_rfl) (by kernel_rfl) (fun _ _ _ h => h) (Or.inl ⟨by rfl, ?_⟩) (by assumption) ?_
  rotate_left
  · intro w hSw
    (try dsimp only at hSw)
    go_simp
    all_goals with_reducible rfl
  try simp only [Act.put, List.getElem_toArray, List.getElem_cons_succ, List.getElem_cons_zero, List.setIfInBounds_toArray, List.set_cons_zero, List.set_cons_succ]
  refine wpAnyH_take (i := 21) (v := ?_) rfl (by kernel_rfl) (by kernel_rfl) (by kernel_rfl) (fun _ _ _ h => h) (Or.inl ⟨by rfl, ?_⟩) (by assumption) ?_
  rotate_left
  · intro w hSw
    (try dsimp only at hSw)
    go_simp
    all_goals with_reducible rfl
  try simp only [Act.put, List.getElem_toArray, List.getElem_cons_succ, List.getElem_cons_zero, List.setIfInBounds_toArray, List.set_cons_zero, List.set_cons_succ]
  refine wpAnyH_take (i := 22) (v := ?_) rfl (by kernel_rfl) (by kernel_rfl) (by kernel_rfl) (fun _ _ _ h => h) (Or.inl ⟨by rfl, ?_⟩) (by assumption) ?_
  rotate_left
  · intro w hSw
    (try dsimp only at hSw)
    go_simp
    all_goals with_reducible rfl
  try simp only [Act.put, List.getElem_toArray, List.getElem_cons_succ, List.getElem_cons_zero, List.setIfInBounds_toArray, List.set_cons_zero, List.set_cons_succ]
  refine wpAnyH_done (by kernel_rfl) ?_ _
  go_wp2
  go_ret
  exact ⟨rfl, Below.drew (Below.refl _ _)⟩
def magic : List Nat := [71, 79, 86, 49]
def hd0 (n : Nat) : List Nat := magic ++ be 4 n
def head (n : Nat) : List Nat := hd0 n ++ be 4 (more 0 (hd0 n))
theorem hd0_len (n : Nat) : (hd0 n).length = 8 := by simp [hd0, magic, be_len]
theorem head_len (n : Nat) : (head n).length = 12 := by simp [head, hd0_len, be_len]
theorem hd0_byte (n : Nat) : ∀ c ∈ hd0 n, c < 256 := by
  intro c hc
  rcases List.mem_append.1 hc with h | h
  · clear hc; revert c; decide
  · exact be_byte _ _ c h
theorem head_byte (n : Nat) : ∀ c ∈ head n, c < 256 := by
  intro c hc
  rcases List.mem_append.1 hc with h | h
  · exact hd0_byte n c h
  · exact be_byte _ _ c h

set_option maxRecDepth 100000 in
set_option maxHeartbeats 800000 in
theorem segHead_yes (n : Nat) (hn : n ≤ 1073741824) (w : World) :
    Calls Tryd.prog 11 #[.int .i64 (n : Int)] w fun e w' => ∃ v, e = .returned v ∧ OwnB w' w.heap.size 5 v (head n) ∧ Below w.heap.size w w' := by
  have hi := Lib.hid (first_yes (n : Int) (by omega) (by omega))
  have hwn : IntKind.u32.wrap (n : Int) = (n : Int) := wraps_u32 _ (by omega) (by omega)
  have kc := fun (w : World) (C : Array Value) (n c : Nat) => Lib.run_convert_bytes_const (P := Tryd.prog) w 22 5 C n c Tryd.underlying22 Tryd.underlying5
  have W1 := Lib.hid (swrite_full ⟨w.heap.size, 0, none⟩ 4 magic n (by omega) (w.alloc (.cells #[.int .u8 71, .int .u8 79, .int .u8 86, .int .u8 49] 5 (4, 5))) (Sl.new (heap_alloc_new w _) (by rfl) (by decide) 4 rfl (by decide)) (by decide))
  go_enter Tryd.func11, Tryd.ntmps11
  go_wp2_with (first | (go_at_call 25; refine (hi.out _).mono ?_; rintro e w1 ⟨rfl, rfl⟩) | fail)
  refine W1.out.mono ?_
  rintro e w2 ⟨v2, rfl, ho2, hb2⟩
  have ho2 := ho2.mono (base' := w.heap.size) (by simp)
  have hB2 : Below w.heap.size w w2 := ((Below.refl _ _).alloc (Nat.le_refl _) _).trans (hb2.mono (by simp))
  obtain ⟨a2, c2, hv2, hs2⟩ := ho2.sl (hd0_byte n)
  rw [show (magic ++ be 4 n).length = 8 from hd0_len n] at hv2 hs2
  subst hv2
  have OF := Lib.hid (of_any a2 8 c2 _ w2 hs2)
  have hml := more_lt 0 (magic ++ be 4 n)
  have H2 := Lib.hid (And.intro ho2 hB2)
  clear hb2 ho2 hB2 hs2 W1 hi kc
  go_wp2_with fail
  refine OF.out.mono ?_
  rintro e w3 ⟨rfl, hb3⟩
  have hB3 := H2.out.2.trans (hb3.mono H2.out.2.size)
  have W3 := Lib.hid (swrite_any _ _ w.heap.size _ hml w3 (H2.out.1.below hb3) hB3.size (by rw [show (magic ++ be 4 n).length = 8 from hd0_len n]; decide))
  have HB3 := Lib.hid hB3
  clear hb3 hB3 H2 OF
  go_wp2_with fail
  refine W3.out.mono ?_
  rintro e w4 ⟨v4, rfl, ho4, hb4⟩
  have HH := Lib.hid (And.intro ho4 (HB3.out.trans hb4))
  clear ho4 hb4 W3 HB3
  go_wp2
  go_ret
  exact ⟨_, rfl, HH.out.1, HH.out.2⟩
theorem segHead_no (n : Int) (h : ¬ (0 ≤ n ∧ n ≤ 1073741824)) (w : World) :
    Calls Tryd.prog 11 #[.int .i64 n] w fun e w' => e = .returned (.slice none 0 0) ∧ w = w' := by
  have hi := Lib.hid (first_no n h)
  clear h
  go_enter Tryd.func11, Tryd.ntmps11
  go_wp2_with (first | (go_at_call 25; refine (hi.out _).mono ?_; rintro e w1 ⟨rfl, rfl⟩) | fail)
  go_ret
  exact ⟨rfl, rfl⟩
end Go.Proofs.YtiiellclnmakpaaDoor
