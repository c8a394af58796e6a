/- Contracts of the reference of frames: Right, Read, Number, Put. -/
import Derived.Test.YtiiellclnmakpaaDoorFrC
import Derived.Test.YtiiellclnmakpaaDoorSumR
import Derived.Deep.AppendLies
namespace Go.Proofs.YtiiellclnmakpaaDoor
open Go.RowKit
open Crc Frm

set_option maxRecDepth 100000 in
set_option maxHeartbeats 400000 in
theorem rright_any (f : Fr) (ty seq : Int) (len : Nat) (h1 : f.ty = ty) (h2 : f.seq = seq) (h3 : f.body.length = len) (a : Option Addr) (cap : Nat) (w : World) :
    Calls Tryd.prog 31 #[.agg #[.int .i64 ty, .int .i64 seq, .slice a len cap]] w fun e w' => e = .returned (.bool (decide f.right)) ∧ Below w.heap.size w w' := by
  subst h1 h2 h3
  obtain ⟨ty, seq, body⟩ := f
  go_enter Tryd.func31, Tryd.ntmps31
  go_wp2
  all_goals
    go_ret
    refine ⟨?_, (Below.refl _ _).alloc (Nat.le_refl _) _⟩
    first
      | (refine ret_right_yes ⟨ty, seq, body⟩ ?_; simp only; omega)
      | (refine ret_right_no ⟨ty, seq, body⟩ ?_; simp only; omega)

set_option maxRecDepth 100000 in
set_option maxHeartbeats 400000 in
theorem rread_any (a : Option Addr) (len cap : Nat) (bs : List Nat) (w : World) (hs : Sl w w.heap.size a len cap bs) (h4 : len ≤ 4) :
    Calls Tryd.prog 22 #[.slice a len cap] w fun e w' => e = .returned (.int .u64 ((val bs : Nat) : Int)) ∧ w = w' := by
  have hbl := hs.length
  go_enter Tryd.func22, Tryd.ntmps22
  go_wp2_with fail
  go_loop [3, 4] (fun v i => ∃ k : Nat, k ≤ len ∧ i = .int .i64 (k : Int) ∧ v = .int .u64 ((val (bs.take k) : Nat) : Int)) (fun _ i => len - (intOf i).toNat)
  case atStart => exact ⟨0, by omega, rfl, rfl⟩
  case round =>
    obtain ⟨k, hk, rfl, rfl⟩ := hrel
    by_cases hlt : k < len
    · obtain ⟨b, o, rfl, hb, hc⟩ := hs.at_ (by omega)
      have c1 := hc k hlt
      have hcb := hs.lt hlt
      have hvl : val (bs.take k) < 16777216 := by
        have h1 := val_lt (bs.take k) (fun c hc => hs.byte c (List.mem_of_mem_take hc))
        have h2 : (bs.take k).length ≤ 3 := by rw [List.length_take]; omega
        have h3 := Nat.pow_le_pow_right (n := 256) (by decide) h2
        omega
      have Hst : Hid (val (bs.take (k + 1)) = val (bs.take k) * 256 + bs.getD k 0) := by
        show _ = _
        rw [List.take_succ_eq_append_getElem (by omega), val_snoc, List.getD_eq_getElem?_getD, List.getElem?_eq_getElem (by omega)]
        rfl
      generalize val (bs.take k) = v at hvl Hst
      generalize bs.getD k 0 = c at c1 hcb Hst
      clear hc
      go_wp2
      exact ⟨⟨k + 1, by omega, by go_num, by rw [Hst.out]; go_num⟩, by simp [intOf]; omega⟩
    · have hk' : k = len := by omega
      subst hk'
      rw [List.take_of_length_le (by omega)]
      go_wp2
      go_ret
      exact ⟨rfl, rfl⟩

theorem number_step (j k n : Nat) (hj : j < k) : (List.replicate (k - j) 0 ++ be j n).set (k - j - 1) (n / 256 ^ j % 256) = List.replicate (k - (j + 1)) 0 ++ be (j + 1) n := by
  obtain ⟨m, hm⟩ : ∃ m, k - j = m + 1 := ⟨k - j - 1, by omega⟩
  rw [hm, show k - (j + 1) = m from by omega, show m + 1 - 1 = m from by omega, List.replicate_succ', List.append_assoc, List.set_append_right _ _ (by simp)]
  simp [be]

set_option maxRecDepth 100000 in
set_option maxHeartbeats 800000 in
theorem number_any (n k : Nat) (hn : n < 4294967296) (hk4 : k ≤ 4) (h1 : 1 ≤ k) (w : World) :
    Calls Tryd.prog 30 #[.int .u64 (n : Int), .int .i64 (k : Int)] w fun e w' => ∃ g, e = .returned (.slice (some ⟨g, 0, none⟩) k k) ∧ OwnB w' w.heap.size 5 (.slice (some ⟨g, 0, none⟩) k k) (be k n) ∧ Below w.heap.size w w' := by
  obtain ⟨i8, hi8, hz0, hz1, hz2⟩ := info_parts info_u8
  go_enter Tryd.func30, Tryd.ntmps30
  go_wp2_with (at_make; refine wpList_make_full _ rfl (.tmp 7) (.tmp 7) 22 rfl w.heap.size 5 i8 (.int .u8 0) 1 Tryd.underlying22 hi8 hz0 hz1 .i64 .i64 _ _ k rfl rfl rfl rfl (by rw [hz2]; omega) (by unfold maxLen; omega) (Nat.le_refl _) ?_; intro w2 hown hg)
  have hown1 := OwnB.made hown
  have hB2 : Below w.heap.size w w2 := (Below.refl _ _).grown hg (Nat.le_refl _) (fun k hk => by cases hk)
  clear hown hg
  go_loopw [0, 6] (fun x i wx => ∃ j : Nat, j ≤ k ∧ x = .int .u64 ((n / 256 ^ j : Nat) : Int) ∧ i = .int .i64 ((k : Int) - 1 - (j : Int)) ∧ OwnB wx w.heap.size 5 (.slice (some ⟨w.heap.size, 0, none⟩) k k) (List.replicate (k - j) 0 ++ be j n) ∧ Below w.heap.size w wx)
    (fun _ i _ => (intOf i + 1).toNat)
  case atStart => exact ⟨0, by omega, by simp, by simp, by simpa [be] using hown1, hB2⟩
  case round =>
    obtain ⟨j, hj, rfl, rfl, ho, hB⟩ := hrel
    by_cases hlt : j < k
    · have hkc := ho.cell (k := k - 1 - j) (by simp [be_len]; omega)
      have hset := ho.set_ (k - j - 1) (n / 256 ^ j % 256)
      rw [number_step j k n hlt] at hset
      have hle : n / 256 ^ j < 4294967296 := Nat.lt_of_le_of_lt (Nat.div_le_self _ _) hn
      have hdv : Hid (n / 256 ^ (j + 1) = n / 256 ^ j / 256) := by show _ = _; rw [Nat.pow_succ, Nat.div_div_eq_div_mul]
      have H := Lib.hid (And.intro hset hB)
      clear hset ho hB hown1 hB2
      generalize n / 256 ^ j = m at hle hdv H
      obtain ⟨q, hq⟩ : ∃ q, q = k - 1 - j := ⟨_, rfl⟩
      have hqi : (k : Int) - 1 - (j : Int) = (q : Int) := by omega
      rw [hqi]
      rw [← hq] at hkc
      rw [show k - j - 1 = q from by omega] at H
      have hq1 : (q : Int) < (k : Int) := by omega
      have HQ := Lib.hid hq
      clear hqi hq
      go_wp2
      have hq := HQ.out
      have hm := H.out.1
      refine ⟨⟨j + 1, by omega, by rw [hdv.out]; go_num, by go_num, ?_, H.out.2.setCell (p := ⟨w.heap.size, q, none⟩) (Nat.le_refl _) _⟩, by first | (simp [intOf]; done) | (simp [intOf]; omega)⟩
      first | exact hm | (have e : Value.int .u8 ((m : Int) % 256) = bv (m % 256) := rfl; rw [e]; exact hm)
    · have hjk : j = k := by omega
      subst hjk
      rw [show (j : Int) - 1 - (j : Int) = -1 from by omega]
      go_wp2
      go_ret
      exact ⟨_, rfl, by simpa using ho, hB⟩

theorem own_two {w : World} {base : Nat} {e : TypeId} {v : Value} {b2 : List Nat} (h2 : b2.length = 2) (h : OwnB w base e v b2) : w.ownsRow base e 1 v 2 (b2.map bv) := by
  have := h
  unfold OwnB at this
  rwa [h2] at this
theorem own_three {w : World} {base : Nat} {e : TypeId} {v : Value} {b2 : List Nat} {t : Nat} (h2 : b2.length = 2) (h : w.ownsRow base e 1 v (2 + 1) (b2.map bv ++ [.int .u8 (t : Int)])) : OwnB w base e v (b2 ++ [t]) := by
  unfold OwnB
  rw [List.length_append, h2, List.map_append]
  exact h
theorem own_ge {w : World} {base : Nat} {e : TypeId} {g n cap : Nat} {bs : List Nat} (h : OwnB w base e (.slice (some ⟨g, 0, none⟩) n cap) bs) : base ≤ g := (h.at_base rfl).1
set_option maxRecDepth 100000 in
set_option maxHeartbeats 1600000 in
theorem rput_any (f : Fr) (a : Option Addr) (cap : Nat) (w : World) (hs : Sl w w.heap.size a f.body.length cap f.body) :
    Calls Tryd.prog 14 #[.agg #[.int .i64 f.ty, .int .i64 f.seq, .slice a f.body.length cap]] w fun e w' => ∃ v, e = .returned v ∧ OwnB w' w.heap.size 5 v (put f) ∧ Below w.heap.size w w' := by
  have hB0 : ∀ o, Below w.heap.size w (w.alloc o) := fun o => (Below.refl _ _).alloc (Nat.le_refl _) o
  by_cases hr : f.right
  · have hp : put f = raw f := by unfold put; rw [if_pos hr]
    rw [hp]
    obtain ⟨h1, h2, h3, h4, h5⟩ := id hr
    obtain ⟨t, ht⟩ := Int.eq_ofNat_of_zero_le (show 0 ≤ f.ty by omega)
    obtain ⟨s, hsq⟩ := Int.eq_ofNat_of_zero_le h3
    have R := Lib.hid (rright_any f t s f.body.length ht hsq rfl a cap)
    rw [decide_eq_true hr] at R
    rw [ht, hsq]
    have Hraw : Hid (raw f = (be 2 f.body.length ++ [t]) ++ be 4 s ++ f.body ++ be 4 (more 0 ((be 2 f.body.length ++ [t]) ++ be 4 s ++ f.body))) := by
      have e1 : f.ty.toNat = t := by rw [ht]; rfl
      have e2 : f.seq.toNat = s := by rw [hsq]; rfl
      have e3 : be 1 t = [t] := by simp [be]; omega
      show _ = _
      simp [raw, sm, hd, e1, e2, e3]
    have ht16 : t ≤ 15 := by omega
    have hs30 : s ≤ 1073741824 := by omega
    clear h1 h2 h3 h4 ht hsq hp
    obtain ⟨body, hbody⟩ : ∃ b, b = f.body := ⟨_, rfl⟩
    rw [← hbody] at hs Hraw R h5 ⊢
    obtain ⟨len, hlen⟩ : ∃ l, l = body.length := ⟨_, rfl⟩
    rw [← hlen] at hs Hraw R h5 ⊢
    have Hlen := Lib.hid hlen
    clear hbody hlen
    obtain ⟨i8, hi8, hz0, hz1, hz2⟩ := info_parts info_u8
    go_enter Tryd.func14, Tryd.ntmps14
    go_wp2_with fail
    refine (R.out _).mono ?_
    rintro e w1 ⟨rfl, hb1⟩
    have hx1 := (hb1.block w.heap.size (by simp)).trans (heap_alloc_new _ _)
    have hB1 := (hB0 (.cells #[.int .i64 (t : Int), .int .i64 (s : Int), .slice a len cap] 36)).trans (hb1.mono (by simp))
    have hz1' := lt_of_heap hx1
    have k0 := (cell_of_row w1 w.heap.size 0 _ _ _ hx1).trans rfl
    have k2 := (cell_of_row w1 w.heap.size 2 _ _ _ hx1).trans rfl
    have Hx := Lib.hid (And.intro hx1 hB1)
    have NU := Lib.hid (number_any len 2 (by omega) (by decide) (by decide))
    have h2l : (be 2 len).length = 2 := be_len 2 len
    have hbl2 := be_byte 2 len
    generalize be 2 len = b2 at NU Hraw h2l hbl2
    have hw1 : IntKind.u64.wrap (len : Int) = (len : Int) := by rw [IntKind.wrap_u64]; omega
    have hw2 : IntKind.u8.wrap (t : Int) = (t : Int) := by rw [IntKind.wrap_u8]; omega
    clear hx1 hB1 hb1
    go_wp2_with fail
    go_cut [3] from 4 (fun v wx => ∃ g c, v = .slice (some ⟨g, 0, none⟩) 3 c ∧ OwnB wx (w.heap.size + 1) 5 (.slice (some ⟨g, 0, none⟩) 3 c) (b2 ++ [t]) ∧ Below w1.heap.size w1 wx)
    case first =>
      go_region_held3 (fun w' => w'.cell? ⟨w.heap.size, 0, none⟩ = some (.int .i64 (t : Int)) ∧ w'.cell? ⟨w.heap.size, 2, none⟩ = some (.slice a len cap))
        (first | exact ⟨e0, e2⟩ | exact ⟨d0, d2⟩ | exact ⟨k0, k2⟩ | exact ⟨d0a _, d2a _⟩ | exact ⟨f0, f2⟩ | exact ⟨(World.cell?_alloc_past _ _ _ hz1').trans k0, (World.cell?_alloc_past _ _ _ hz1').trans k2⟩)
        (first
          | (go_at_call 30; refine (NU.out w1.drew).mono ?_; rintro e w4 ⟨g4, rfl, ho4, hb4⟩; have d0 := (hb4.cell (p := ⟨w.heap.size, 0, none⟩) hz1').trans k0; have d2 := (hb4.cell (p := ⟨w.heap.size, 2, none⟩) hz1').trans k2; have hz4 : w.heap.size < w4.heap.size := Nat.lt_of_lt_of_le hz1' hb4.size; have d0a : ∀ o, (w4.alloc o).cell? ⟨w.heap.size, 0, none⟩ = _ := fun o => (World.cell?_alloc_past _ _ _ hz4).trans d0; have d2a : ∀ o, (w4.alloc o).cell? ⟨w.heap.size, 2, none⟩ = _ := fun o => (World.cell?_alloc_past _ _ _ hz4).trans d2; have ho5 := own_two h2l (ho4.mono (base' := w.heap.size + 1) hz1'); have hwb := (Below.drew (Below.refl w1.heap.size w1)).trans hb4; have hge4 : w1.heap.size ≤ g4 := own_ge ho4)
          | (go_at_call 30; refine (NU.out _).mono ?_; rintro e w4 ⟨g4, rfl, ho4, hb4⟩; have f0 := (hb4.cell (p := ⟨w.heap.size, 0, none⟩) (by simp; omega)).trans ((World.cell?_alloc_past _ _ _ hz1').trans k0); have f2 := (hb4.cell (p := ⟨w.heap.size, 2, none⟩) (by simp; omega)).trans ((World.cell?_alloc_past _ _ _ hz1').trans k2); have hlit := (hb4.block w1.heap.size (by simp)).trans (heap_alloc_new w1 _); have ho6 := own_two h2l (ho4.mono (base' := w.heap.size + 1) (by simp; omega)); have hb6 := (Below.drew ((Below.refl w1.heap.size w1).alloc (Nat.le_refl _) _)).trans (hb4.mono (by simp)); have hge4 : w1.heap.size ≤ g4 := by have := own_ge ho4; simp at this; omega)
          | (refine step_append_lies _ rfl (.tmp 11) (.tmp 15) 22 rfl (w.heap.size + 1) 5 i8 (.int .u8 0) 1 1 Tryd.underlying22 hi8 hz0 hz1 hz2 rfl (by decide) (.slice (some ⟨g4, 0, none⟩) 2 2) 2 (b2.map bv) rfl (ho5.alloc _) ⟨w4.heap.size, 0, none⟩ 1 1 [.int .u8 (t : Int)] rfl rfl (World.news_of_block (heap_alloc_new _ _)) (by intro u hu; simp at hu; subst hu; rfl) (by decide) (by decide) (by decide) (by simp; omega) _ rfl ?_; intro g5 c5 w5 h1 h2 h3 h4; have e0 := h2.cell (d0a _) (by simp [Value.ownBlock]; omega); have e2 := h2.cell (d2a _) (by simp [Value.ownBlock]; omega); have h7 := own_three h2l h1; have hb7 := (hwb.alloc hwb.size _).grown h2 (by have := hwb.size; simp; omega) (fun k hk => by simp [Value.ownBlock] at hk; omega))
          | (refine step_append_lies _ rfl (.tmp 11) (.tmp 15) 22 rfl (w.heap.size + 1) 5 i8 (.int .u8 0) 1 1 Tryd.underlying22 hi8 hz0 hz1 hz2 rfl (by decide) (.slice (some ⟨g4, 0, none⟩) 2 2) 2 (b2.map bv) rfl ho6 ⟨w1.heap.size, 0, none⟩ 1 1 [.int .u8 (t : Int)] rfl rfl (World.news_of_block hlit) (by intro u hu; simp at hu; subst hu; rfl) (by decide) (by decide) (by decide) (by have := hb6.size; simp; omega) _ rfl ?_; intro g5 c5 w5 h1 h2 h3 h4; have e0 := h2.cell f0 (by simp [Value.ownBlock]; omega); have e2 := h2.cell f2 (by simp [Value.ownBlock]; omega); have h7 := own_three h2l h1; have hb7 := hb6.grown h2 hb6.size (fun k hk => by simp [Value.ownBlock] at hk; omega)))
      all_goals
        go_wp2_with fail
        go_meet
        case rel => exact ⟨g5, c5, rfl, h7, hb7⟩
    case rest =>
      obtain ⟨g, c, rfl, ho, hBc⟩ := hcut
      have hB1 := Hx.out.2.trans (hBc.mono Hx.out.2.size)
      have hx2 := (hBc.block w.heap.size hz1').trans Hx.out.1
      have hzc := lt_of_heap hx2
      have k1 := (cell_of_row wc w.heap.size 1 _ _ _ hx2).trans rfl
      have hl3 : (b2 ++ [t]).length = 3 := by rw [List.length_append, h2l]; rfl
      have hb3 : ∀ c ∈ b2 ++ [t], c < 256 := by
        intro c hc
        rcases List.mem_append.1 hc with h | h
        · exact hbl2 c h
        · simp at h; omega
      generalize b2 ++ [t] = b3 at ho hl3 hb3 Hraw
      have hw3 : IntKind.u64.wrap (s : Int) = (s : Int) := by rw [IntKind.wrap_u64]; omega
      have NU4 := Lib.hid (number_any s 4 (by omega) (by decide) (by decide) wc)
      have hbe4 := be_byte 4 s
      have hbl4 := be_len 4 s
      generalize be 4 s = b4 at NU4 Hraw hbe4 hbl4
      have H2 := Lib.hid (And.intro hx2 (And.intro hB1 ho))
      clear hx2 hB1 ho k0 k2 Hx hBc NU hw1 hw2 h2l hbl2
      go_wp2_with fail
      refine NU4.out.mono ?_
      rintro e w4 ⟨g4, rfl, ho4, hb4⟩
      have hs4 := ho4.sl hbe4
      rw [hbl4] at hs4
      obtain ⟨a4, c4, hv4, hs4⟩ := hs4
      have ha4 : a4 = some ⟨g4, 0, none⟩ := by injection hv4 with h1 h2 h3; exact h1.symm
      have hc4 : c4 = 4 := by injection hv4 with h1 h2 h3; exact h3.symm
      subst ha4 hc4
      have ho3 := H2.out.2.2.below hb4
      have hx4 := (hb4.block w.heap.size hzc).trans H2.out.1
      have hB4 := H2.out.2.1.trans (hb4.mono H2.out.2.1.size)
      have hz4 := lt_of_heap hx4
      clear hb4 H2 hv4 ho4 k1
      go_upto_region 5 with (at_builtin; refine wpList_append_sl rfl (.tmp 17) (.tmp 21) _ rfl (w.heap.size + 1) _ Tryd.underlying22 info_u8 (.slice (some ⟨g, 0, none⟩) 3 c) b3 rfl ho3 _ (some ⟨g4, 0, none⟩) 4 4 b4 rfl hs4 (by omega) (by omega) ?_; intro v5 w5 ho5 hg5 hat5; have hx5 := (hg5.block w.heap.size hz4 (by have := own_ge ho3; simp [Value.ownBlock]; omega)).trans hx4; have k2 := (cell_of_row w5 w.heap.size 2 _ _ _ hx5).trans rfl)
      have hB5 : Below w.heap.size w w5 := hB4.grown hg5 hB4.size (fun k hk => by have := (ho3.at_base hk).1; omega)
      have hz5 := lt_of_heap hx5
      have hl5 : (b3 ++ b4).length = 7 := by rw [List.length_append]; omega
      have hb5 : ∀ c ∈ b3 ++ b4, c < 256 := by
        intro c hc
        rcases List.mem_append.1 hc with h | h
        · exact hb3 c h
        · exact hbe4 c h
      generalize b3 ++ b4 = b5 at ho5 hl5 hb5 Hraw
      have hsb := hs.below hB5 (Nat.le_refl _)
      clear hg5 hat5 hx4 hB4 hs4 ho3
      go_wp2_with (at_builtin; refine wpList_append_sl rfl (.tmp 23) (.tmp 25) _ rfl (w.heap.size + 1) _ Tryd.underlying22 info_u8 v5 b5 rfl ho5 _ a len cap body rfl hsb (by omega) (by omega) ?_; intro v6 w6 ho6 hg6 hat6)
      have hB6 : Below w.heap.size w w6 := hB5.grown hg6 hB5.size (fun k hk => by have := (ho5.at_base hk).1; omega)
      have hz6 := Nat.lt_of_lt_of_le hz5 hg6.size
      have hb6 : ∀ c ∈ b5 ++ body, c < 256 := by
        intro c hc
        rcases List.mem_append.1 hc with h | h
        · exact hb5 c h
        · exact hs.byte c h
      have hl6 : (b5 ++ body).length = len + 7 := by rw [List.length_append]; have := Hlen.out; omega
      obtain ⟨a6, cap6, hv6, hs6⟩ := ho6.sl hb6
      generalize b5 ++ body = b6 at ho6 hv6 hs6 hl6 Hraw hb6
      rw [hl6] at hv6 hs6
      subst hv6
      have ml := more_lt 0 b6
      have hw6 : IntKind.u64.wrap ((more 0 b6 : Nat) : Int) = ((more 0 b6 : Nat) : Int) := by rw [IntKind.wrap_u64]; omega
      have OF := Lib.hid (rof_any a6 (len + 7) cap6 b6 w6 hs6)
      have NM := Lib.hid (number_any (more 0 b6) 4 ml (by decide) (by decide) w6)
      generalize more 0 b6 = m at ml hw6 OF NM Hraw
      have hbe6 := be_byte 4 m
      have hbl6 := be_len 4 m
      generalize be 4 m = bm at NM Hraw hbe6 hbl6
      have H6 := Lib.hid (And.intro ho6 hB6)
      clear hg6 hat6 ho6 hB6 hx5 hB5 ho5 hsb hs6 k2
      refine OF.out.mono ?_
      rintro e w7 ⟨rfl, rfl⟩
      go_wp2_with fail
      refine NM.out.mono ?_
      rintro e w8 ⟨g8, rfl, ho8, hb8⟩
      have hs8 := ho8.sl hbe6
      rw [hbl6] at hs8
      obtain ⟨a8, c8, hv8, hs8⟩ := hs8
      have ha8 : a8 = some ⟨g8, 0, none⟩ := by injection hv8 with h1 h2 h3; exact h1.symm
      have hc8 : c8 = 4 := by injection hv8 with h1 h2 h3; exact h3.symm
      subst ha8 hc8
      have ho9 := H6.out.1.below hb8
      have hB8 := H6.out.2.trans (hb8.mono H6.out.2.size)
      have hz8 := Nat.lt_of_lt_of_le hz6 hb8.size
      clear hb8 H6 hv8 ho8 NM OF
      go_wp2_with (at_builtin; refine wpList_append_sl rfl (.tmp 27) (.tmp 31) _ rfl (w.heap.size + 1) _ Tryd.underlying22 info_u8 (.slice a6 (len + 7) cap6) b6 rfl ho9 _ (some ⟨g8, 0, none⟩) 4 4 bm rfl hs8 (by omega) (by omega) ?_; intro v9 w9 ho10 hg9 hat9)
      have hB9 : Below w.heap.size w w9 := hB8.grown hg9 hB8.size (fun k hk => by have := (ho9.at_base hk).1; omega)
      rw [← Hraw.out] at ho10
      have H9 := Lib.hid (And.intro (ho10.mono (base' := w.heap.size) (by omega)) hB9)
      clear ho10 hB9 hg9 hat9 ho9 hB8
      go_ret
      exact ⟨_, rfl, H9.out.1, H9.out.2⟩
  · have hp : put f = [] := by unfold put; rw [if_neg hr]
    rw [hp]
    have R := Lib.hid (rright_any f f.ty f.seq f.body.length rfl rfl rfl a cap)
    rw [decide_eq_false hr] at R
    go_enter Tryd.func14, Tryd.ntmps14
    go_wp2_with fail
    refine (R.out _).mono ?_
    rintro e w1 ⟨rfl, hb1⟩
    have hB1 := (hB0 (.cells #[.int .i64 f.ty, .int .i64 f.seq, .slice a f.body.length cap] 36)).trans (hb1.mono (by simp))
    go_wp2
    go_ret
    exact ⟨_, rfl, OwnB.nil_ _ _ _, hB1⟩
end Go.Proofs.YtiiellclnmakpaaDoor
