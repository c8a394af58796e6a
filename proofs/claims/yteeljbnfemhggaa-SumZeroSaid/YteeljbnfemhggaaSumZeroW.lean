/- SumZero: the walk. -/
import Derived.Test.YteeljbnfemhggaaSumH
import Derived.Test.YteeljbnfemhggaaOwn
namespace Go.Proofs.Yteeljbnfemhggaa
open Go.RowKit
open Crc

theorem info_u8 : (Try.prog.info? 5).map (fun i => (i.zero, i.size, i.bytes)) = some (some (.int .u8 0), 1, 1) := by kernel_rfl

theorem le32_sl (w : World) (x : Nat) (hx : x < 4294967296) : Sl (w.alloc (.cells #[.int .u8 ((x : Int) % 256), .int .u8 ((x : Int) / 256 % 256), .int .u8 ((x : Int) / 65536 % 256), .int .u8 ((x : Int) / 16777216)] 5)) (w.alloc (.cells #[.int .u8 ((x : Int) % 256), .int .u8 ((x : Int) / 256 % 256), .int .u8 ((x : Int) / 65536 % 256), .int .u8 ((x : Int) / 16777216)] 5)).heap.size (some ⟨w.heap.size, 0, none⟩) 4 4 (le32 x) := by
  refine Sl.new (heap_alloc_new _ _) ?_ (by intro c hc; simp [le32] at hc; omega) 4 rfl (by simp [le32, maxLen])
  have e : ((x / 16777216 % 256 : Nat) : Int) = (x : Int) / 16777216 := by omega
  simp [le32]
  omega
theorem OwnB.alloc {w : World} {base : Nat} {e : TypeId} {v : Value} {bs : List Nat} (h : OwnB w base e v bs) (o : Obj) : OwnB (w.alloc o) base e v bs := World.ownsRow.alloc h o

set_option maxHeartbeats 800000 in
theorem sumZero_walk (a : Option Addr) (len cap : Nat) (bs : List Nat) (w : World) (hs : Sl w w.heap.size a len cap bs) :
    Calls Try.prog 6 #[.slice a len cap] w fun e w' => e = .returned (.bool true) ∧ Below w.heap.size w w' := by
  by_cases hlen : len ≤ 9000
  · go_enter Try.func6, Try.ntmps6
    go_wp2_with fail
    refine (head_any _).mono ?_
    rintro e w1 ⟨rfl, hb1⟩
    have hs1 := (hs.below hb1 (Nat.le_refl _)).more hb1.size
    go_wp2_with fail
    refine (of_any a len cap bs _ hs1).mono ?_
    rintro e w2 ⟨rfl, hb2⟩
    have hb02 : Below w.heap.size w w2 := hb1.trans (hb2.mono hb1.size)
    have hs2 := (hs.below hb02 (Nat.le_refl _)).more hb02.size
    have Hx := more_lt 0 bs
    have Hz := Lib.hid (more_zero bs hs.byte)
    generalize more 0 bs = x at Hx Hz
    clear hb1 hb2 hs1
    have hown0 : OwnB (w2.alloc (.cells #[] 5)) w2.heap.size 5 (.slice (some ⟨w2.heap.size, 0, none⟩) 0 0) [] := OwnB.lit _ [] (Nat.le_refl _) (by decide)
    have hs2' := hs2.below ((Below.refl _ w2).alloc (Nat.le_refl _) (.cells #[] 5)) (Nat.le_refl _)
    have hlb := hs.length
    go_wp2_with (first | (at_builtin; refine wpList_append_sl rfl (.tmp 13) (.tmp 14) _ rfl w2.heap.size _ Try.underlying22 info_u8 (.slice (some ⟨w2.heap.size, 0, none⟩) 0 0) [] rfl hown0 _ a len cap bs rfl hs2' (by simp; omega) (by simp) ?_; intro v1 w3 hown1 hg1 hat1) | (at_builtin; go_loud (refine wpList_append_sl rfl (.tmp 15) (.tmp 27) _ rfl w2.heap.size _ Try.underlying22 info_u8 v1 _ rfl (hown1.alloc _) _ _ 4 4 (le32 x) rfl (le32_sl w3 x Hx) (by simp; omega) (by have := hg1.size; simp at this ⊢; omega) ?_); intro v2 w4 hown2 hg2 hat2))
    have hB3 : Below w2.heap.size w2 w3 := ((Below.refl _ w2).alloc (Nat.le_refl _) _).grown hg1 (by simp) (fun k hk => by simp [Value.ownBlock] at hk; omega)
    have hB4 : Below w2.heap.size w2 w4 := (hB3.alloc hB3.size _).grown hg2 (by have := hB3.size; simp; omega) (fun k hk => by
      rcases hat1 with h | h
      · rw [h] at hk; simp [Value.ownBlock] at hk; omega
      · rw [h] at hk; simp at hk; omega)
    obtain ⟨a2, cap2, hv, hs4⟩ := hown2.sl (by
      intro c hc
      rcases List.mem_append.1 hc with h | h
      · exact hs.byte c (by simpa using h)
      · simp [le32] at h; omega)
    have hlen2 : ([] ++ bs ++ le32 x).length = len + 4 := by simp [le32]; omega
    rw [hlen2] at hv hs4
    rw [hv]
    clear hg1 hg2 hat1 hat2 hown1 hown2 hown0
    go_wp2_with fail
    refine (of_any a2 (len + 4) cap2 _ _ hs4).mono ?_
    rintro e w5 ⟨rfl, hb5⟩
    have e5 : more 0 ([] ++ bs ++ le32 x) = 558161692 := by rw [List.nil_append]; exact Hz.out
    rw [e5]
    clear e5
    have hB5 : Below w.heap.size w w5 := (hb02.trans (hB4.mono hb02.size)).trans (hb5.mono (Nat.le_trans hb02.size hB4.size))
    go_wp2
    go_ret
    exact ⟨rfl, hB5⟩
  · have hgt : (9000 : Int) < (len : Int) := by omega
    go_enter Try.func6, Try.ntmps6
    go_wp2_with fail
    refine (head_any _).mono ?_
    rintro e w1 ⟨rfl, hb1⟩
    go_wp2
    go_ret
    exact ⟨by simp, hb1⟩
end Go.Proofs.Yteeljbnfemhggaa
