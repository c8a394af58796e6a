/- A head and frames in a row, read: plain mathematics; cuts of rows of bytes. -/
import Derived.Test.YtcmgefccihehkaaDoorSgP
import Derived.Test.YtcmgefccihehkaaDoorSgW
namespace Go.Proofs.YtcmgefccihehkaaDoor
open Go.RowKit
open Crc Frm

theorem get_short {m : List Nat} (h : m.length ≤ 10) : (get m).2.2 ≠ 0 := fun h0 => by
  obtain ⟨_, _, hl, _, _⟩ := get_ok m h0
  omega
theorem scan_tail : ∀ (fs : List Fr) (first : Int) (m : List Nat), (∀ f ∈ fs, f.right) → (∀ (j : Nat) (f : Fr), fs[j]? = some f → f.seq = first + (j : Int)) → m.length ≤ 10 → scan (rows fs ++ m) first = (fs, (rows fs).length) := by
  intro fs
  induction fs with
  | nil =>
    intro first m _ _ hm
    rw [show rows [] ++ m = m from rfl, scan_stop _ _ (fun h => get_short hm h.1)]
    rfl
  | cons f fs ih =>
    intro first m hr hj hm
    rw [rows_cons, List.append_assoc, scan_raw f (hr f (by simp)) _ first (by simpa using hj 0 f rfl)]
    rw [ih (first + 1) m (fun g hg => hr g (by simp [hg])) (fun j g hg => by have := hj (j + 1) g (by simpa using hg); omega) hm]
    rw [List.length_append, raw_len]
theorem rh_head (n : Nat) (hn : n ≤ 1073741824) (t : List Nat) : rh (head n ++ t) = (n, 0) := by
  have hml := more_lt 0 (hd0 n)
  have ht4 : (head n ++ t).take 4 = magic := rfl
  have ht8 : (head n ++ t).take 8 = hd0 n := by
    rw [List.take_append_of_le_length (by rw [head_len]; decide)]
    unfold head
    rw [List.take_append_of_le_length (by rw [hd0_len]; decide), List.take_of_length_le (by rw [hd0_len]; decide)]
  have hd8 : ((head n ++ t).drop 8).take 4 = be 4 (more 0 (hd0 n)) := by
    unfold head
    rw [List.append_assoc, List.drop_append_of_le_length (by rw [hd0_len]; decide), List.drop_of_length_le (by rw [hd0_len]; decide), List.nil_append, List.take_append_of_le_length (by rw [be_len]; decide), List.take_of_length_le (by rw [be_len]; decide)]
  have hd4 : ((head n ++ t).drop 4).take 4 = be 4 n := by
    unfold head hd0
    rw [List.append_assoc, List.append_assoc, List.drop_append_of_le_length (by decide), show magic.drop 4 = [] from rfl, List.nil_append, List.take_append_of_le_length (by rw [be_len]; decide), List.take_of_length_le (by rw [be_len]; decide)]
  unfold rh
  rw [if_neg (by rw [List.length_append, head_len]; omega), if_neg (by rw [ht4]; simp), if_neg (by rw [hd8, ht8, val_be (by omega)]; simp), hd4, val_be (by omega), if_neg (by omega)]
theorem rd_head (n : Nat) (hn : n ≤ 1073741824) (fs : List Fr) (m : List Nat) (hr : ∀ f ∈ fs, f.right) (hj : ∀ (j : Nat) (f : Fr), fs[j]? = some f → f.seq = (n : Int) + (j : Int)) (hm : m.length ≤ 10) :
    rd (head n ++ rows fs ++ m) = (n, fs, 12 + (rows fs).length, 0) := by
  have h := rh_head n hn (rows fs ++ m)
  unfold rd
  rw [List.append_assoc, h, if_neg (by simp)]
  have hd : (head n ++ (rows fs ++ m)).drop 12 = rows fs ++ m := by
    rw [List.drop_append_of_le_length (by rw [head_len]; decide), List.drop_of_length_le (by rw [head_len]; decide), List.nil_append]
  rw [hd, scan_tail fs n m hr hj hm]

theorem Sls.take {w : World} {B : Nat} {a : Option Addr} {len cap : Nat} {bss : List (List Nat)} (h : Sls w B a len cap bss) {k : Nat} (hk : k ≤ len) : Sls w B a k cap (bss.take k) :=
  ⟨by rw [List.length_take, h.length]; omega, by have := h.le; omega, h.max, fun hp => by
    obtain ⟨b, o, e, hlt, hc⟩ := h.at_ (by omega)
    refine ⟨b, o, e, hlt, fun j bs hj => hc j bs ?_⟩
    rw [List.getElem?_take] at hj
    split at hj
    · exact hj
    · cases hj⟩
theorem info_ss : (Tryd.prog.info? 22).map (fun i => (i.zero, i.size, i.bytes)) = some (some (.slice none 0 0), 1, 24) := by kernel_rfl
theorem run_cut_ss (a : Option Addr) (len cap k : Nat) (hk : k ≤ cap) (w : World) :
    (Instr.slice 44 (.slice a len cap) none (some (.int .i64 (k : Int))) none).run Tryd.prog w = .ok (.slice a k cap) w := by
  obtain ⟨i, hi, _, hz1, _⟩ := info_parts info_ss
  have hs : (sizeOf 22).run Tryd.prog w = .ok 1 w := by simp [sizeOf, typeInfo, hi, hz1]
  have ht' : Tryd.prog.underlying 44 = some (.slice (Tryd.prog.elem 44)) := by simp [Program.elem, Tryd.underlying44]
  have he : Tryd.prog.elem 44 = 22 := by simp [Program.elem, Tryd.underlying44]
  rw [run_slice_h w 44 _ _ _ ht' .i64 _ (by omega) (by omega), he, hs]
  have ha : a.map (fun x => x.add 0) = a := by cases a <;> simp [Addr.add]
  simp [Result.andThen, sliced, ha]
theorem fsC_right (q : Nat) (bss : List (List Nat)) (k : Nat) (h : q + k ≤ 1073741824) : ∀ f ∈ fsC q bss k, f.right := fun f hf => by
  obtain ⟨i, hi, rfl⟩ := List.mem_map.1 hf
  rw [List.mem_range] at hi
  exact frC_right q i _ (by omega)
theorem fsC_row (q : Nat) (bss : List (List Nat)) (k : Nat) : ∀ (j : Nat) (f : Fr), (fsC q bss k)[j]? = some f → f.seq = (q : Int) + (j : Int) := fun j f h => by
  rw [fsC_get q bss k j f h]
  show ((q + j : Nat) : Int) = _
  omega
end Go.Proofs.YtcmgefccihehkaaDoor
