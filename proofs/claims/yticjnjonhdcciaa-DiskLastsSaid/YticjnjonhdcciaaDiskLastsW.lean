/- The walk of DiskLasts. -/
import Derived.Test.YticjnjonhdcciaaDkR
import Derived.Test.YticjnjonhdcciaaDiskStillW
import Derived.Test.YticjnjonhdcciaaDiskOwnW
namespace Go.Proofs.Yticjnjonhdcciaa
open Go.RowKit Go.Sort
open Go.Maps
attribute [local go_sem] Oper.semAt_some

/-- What is known of a name: its last bytes that were made to last. -/
def Had (D : FS) (s : List UInt8) (had : Bool) (L : List Nat) : Prop := had = true → ∃ f, fat D s = some f ∧ L.length ≤ f.l ∧ f.bs.take L.length = L
theorem Had.step {D D' : FS} {s : List UInt8} {had : Bool} {L : List Nat} (h : Had D s had L) (hl : Lst D D' s) : Had D' s had L := fun e => by
  obtain ⟨f, h1, h2, h3⟩ := h e
  obtain ⟨f', g1, g2, g3⟩ := hl f h1
  refine ⟨f', g1, by omega, ?_⟩
  have : (f'.bs.take f.l).take L.length = (f.bs.take f.l).take L.length := by rw [g3]
  rw [List.take_take, List.take_take, show min L.length f.l = L.length from by omega] at this
  rw [this, h3]
theorem Had.no (D : FS) (s : List UInt8) (L : List Nat) : Had D s false L := fun e => by cases e
theorem Had.now {D : FS} {s : List UInt8} {f : Fl} (h : fat D s = some f) (hl : f.l = f.bs.length) : Had D s true f.bs := fun _ => ⟨f, h, by omega, List.take_length⟩
theorem ba_list {a b : ByteArray} (h : a.data.toList = b.data.toList) : a = b := by
  obtain ⟨⟨x⟩⟩ := a
  obtain ⟨⟨y⟩⟩ := b
  have h : x = y := h
  rw [h]
theorem str_ne {a b : ByteArray} (h : ¬ a = b) : (a.toList == b.toList) = false := by
  rw [beq_eq_false_iff_ne]
  intro e
  rw [ByteArray.toList_eq, ByteArray.toList_eq] at e
  exact h (ba_list e)
/-- The loop's relation. -/
def LastsR (w1 : World) (dp len : Nat) (s : List UInt8) (L had i : Value) (wr : World) : Prop :=
  ∃ (k : Nat) (hb : Bool) (l : List Nat) (t : St) (O : Nat → Prop), k ≤ len ∧ i = .int .i64 (k : Int) ∧ had = .bool hb ∧ L = .string (strOf l) ∧ DK w1 wr dp t O ∧ Had t.D s hb l ∧ (∀ c ∈ l, c < 256)
set_option maxRecDepth 100000 in
set_option maxHeartbeats 40000000 in
theorem diskLasts_walk (room : Int) (a : Option Addr) (len cap : Nat) (l : List OpV) (name : ByteArray) (w0 : World) (ho : OpsIn w0 w0.heap.size a len cap l) (hlz : len ≤ 140737488351232) (hnz : name.size ≤ maxLen) :
    Calls Try.prog 4 #[.int .i64 room, .slice a len cap, .string name] w0 fun e w' => e = .returned (.bool true) ∧ Below w0.heap.size w0 w' := by
  have HD := Lib.hid (head_any w0)
  have hle := ho.le
  have HO := Lib.hid ho
  clear ho
  unfold maxLen at hnz
  go_enter Try.func4, Try.ntmps4
  go_wp2_with fail
  refine HD.out.mono ?_
  rintro e w1 ⟨rfl, hb1⟩
  have HB1 := Lib.hid hb1
  clear hb1 HD
  by_cases hroom : 0 ≤ room ∧ room ≤ 1048576
  · obtain ⟨r, rfl⟩ := Int.eq_ofNat_of_zero_le hroom.1
    have N1 := Lib.hid (DK.new r (by omega) w1)
    clear hroom
    go_wp2_with fail
    refine N1.out.mono ?_
    rintro e w2 ⟨dp, O, rfl, hk, hb2, hO2⟩
    have K := Lib.hid hk
    have HB2 := Lib.hid (HB1.out.trans (hb2.mono HB1.out.size))
    clear hk hb2 hO2 N1
    have GR := Lib.hid (great_any a len cap l w2 ((HO.out.below HB2.out (Nat.le_refl _)) |> fun h => ⟨h.length, h.le, h.max, fun hp => by obtain ⟨b, o, e, hlt, hc⟩ := h.at_ hp; exact ⟨b, o, e, Nat.lt_of_lt_of_le hlt HB2.out.size, fun k op hop => ⟨(hc k op hop).1, (hc k op hop).2.below (Below.refl w2.heap.size w2) HB2.out.size⟩⟩⟩) hlz)
    go_wp2_with fail
    refine GR.out.mono ?_
    rintro e w3 ⟨g, rfl, hg, hb3⟩
    have K3 := Lib.hid (K.out.on hb3)
    have HB3 := Lib.hid (HB2.out.trans (hb3.mono HB2.out.size))
    have HG := Lib.hid hg
    clear hb3 hg GR
    cases g
    · have h300 := HG.out rfl
      clear HG
      by_cases h9 : name.size ≤ 900
      · go_wp2_with fail
        go_loopw [9, 10, 11] (fun L had i wr => LastsR w1 dp len name.data.toList L had i wr) (fun _ _ i _ => len - (intOf i).toNat)
        case atStart => exact ⟨0, false, [], _, O, Nat.zero_le _, rfl, rfl, rfl, K3.out, Had.no _ _ _, by simp⟩
        case round =>
          obtain ⟨k, hd, L, t, O', hk, rfl, rfl, rfl, hkd, hhad, hLb⟩ := hrel
          have HB := HB1.out.trans (hkd.below.mono HB1.out.size)
          by_cases hlt : k < len
          · obtain ⟨b, o, op, rfl, hop, ⟨e0, e1, e2, e3, e4, e5⟩, hin⟩ := HO.out.at_later HB hlt
            have hba : Below wr.heap.size wr (wr.alloc (.cells #[.int .i64 op.what, .string op.nm, .string op.to_, .slice op.ba op.bs.length op.bc, .int .i64 op.n, .slice op.ka op.ks.length op.kc] 34)) := (Below.refl _ _).alloc (Nat.le_refl _) _
            have hka := hkd.on hba
            have DO := Lib.hid (do_any hka op (hin.below (hba.mono HB.size) (Nat.le_refl _)) HB1.out.size)
            have LM := Lst.do_ hkd.good op name.data.toList
            have GD := fun (h : t = t) => hkd.good
            obtain ⟨y0, y1, y2, y3, y4, y5⟩ := cell_box6 wr (.int .i64 op.what) (.string op.nm) (.string op.to_) (.slice op.ba op.bs.length op.bc) (.int .i64 op.n) (.slice op.ka op.ks.length op.kc) 34
            have hOb : ¬ O' wr.heap.size := fun ho => by have := hkd.lt _ ho; omega
            have hbs : wr.heap.size < (wr.alloc (.cells #[.int .i64 op.what, .string op.nm, .string op.to_, .slice op.ba op.bs.length op.bc, .int .i64 op.n, .slice op.ka op.ks.length op.kc] 34)).heap.size := by simp
            have HA := Lib.hid (And.intro hhad (And.intro hLb (And.intro hOb hbs)))
            have HY := Lib.hid (And.intro y0 (And.intro y1 y2))
            clear GD hkd hhad hLb hin hop HB hOb hbs y0 y1 y2 y3 y4 y5 hba
            unfold opVal Done at DO
            obtain ⟨r', hr⟩ : ∃ r', r' = (t.do_ op).1 := ⟨_, rfl⟩
            obtain ⟨t', ht⟩ : ∃ t', t' = (t.do_ op).2 := ⟨_, rfl⟩
            rw [← hr, ← ht] at DO LM
            have HLM := Lib.hid LM
            clear LM hr ht hka
            have hsz0 := strOf_size L
            go_wp2_with fail
            refine DO.out.mono ?_
            rintro e w5 ⟨rfl, hmv⟩
            obtain ⟨O5, k5, b5, f5⟩ := hmv.far
            have z0 := (b5.cell (b := wr.heap.size) (o := 0) HA.out.2.2.2 HA.out.2.2.1).trans HY.out.1
            have z1 := (b5.cell (b := wr.heap.size) (o := 1) HA.out.2.2.2 HA.out.2.2.1).trans HY.out.2.1
            have z2 := (b5.cell (b := wr.heap.size) (o := 2) HA.out.2.2.2 HA.out.2.2.1).trans HY.out.2.2
            have RD := Lib.hid (k5.read name (by unfold maxLen; omega))
            have HF := Lib.hid (fat_byte k5.good name.data.toList)
            have K5 := Lib.hid k5
            clear hmv k5 b5 f5 DO HY e0 e1 e2 e3 e4 e5

            by_cases h5 : op.what = 5
            · rw [h5] at z0
              by_cases hr0 : r' = 0
              · subst hr0
                by_cases hn : op.nm = name
                · skip
                  go_wp2
                  go_roundw
                  case rel => exact ⟨k + 1, false, L, t', O5, by omega, by go_num, rfl, rfl, K5.out, Had.no _ _ _, HA.out.2.1⟩
                  case measure => simp [intOf]; omega
                · have bn : (op.nm.toList == name.toList) = false := str_ne hn
                  by_cases ht : op.to_ = name
                  · skip
                    go_wp2
                    go_roundw
                    case rel => exact ⟨k + 1, false, L, t', O5, by omega, by go_num, rfl, rfl, K5.out, Had.no _ _ _, HA.out.2.1⟩
                    case measure => simp [intOf]; omega
                  · have bt : (op.to_.toList == name.toList) = false := str_ne ht
                    have hst : Lst t.D t'.D name.data.toList := HLM.out.1 (fun h => by rcases h with ⟨_, h1, h2⟩ | ⟨_, h1, h2⟩ <;> first | omega | (rcases h2 with h2 | h2 <;> exact absurd (ba_list h2) (by assumption)) | exact absurd (ba_list h2) (by assumption))
                    have hh := HA.out.1.step hst
                    cases hd with
                    | false =>
                      go_wp2_with fail
                      refine RD.out.mono ?_
                      rintro e w6 hN
                      have hfb := HF.out
                      obtain ⟨x, xc, rfl, hxs, _, hb6⟩ := NewBytes.out K5.out hN hfb
                      have K6 := Lib.hid (K5.out.on hb6)
                      have z0' := (hb6.cell (p := ⟨wr.heap.size, 0, none⟩) (block_lt_of_cell z0)).trans z0
                      have z1' := (hb6.cell (p := ⟨wr.heap.size, 1, none⟩) (block_lt_of_cell z1)).trans z1
                      have Hhh := Lib.hid hh
                      clear hh hxs hN hfb hb6 z0 z1 RD
                      go_wp2
                      go_roundw
                      case rel => exact ⟨k + 1, false, L, t', O5, by omega, by go_num, rfl, rfl, K6.out, Hhh.out, HA.out.2.1⟩
                      case measure => simp [intOf]; omega
                    | true =>
                      go_wp2_with fail
                      refine RD.out.mono ?_
                      rintro e w6 hN
                      obtain ⟨f', hf', hl1, hl2⟩ := hh rfl
                      rw [hf'] at hN
                      change NewBytes w5 f'.bs true e w6 at hN
                      have hfb := HF.out
                      rw [hf'] at hfb
                      change ∀ c ∈ f'.bs, c < 256 at hfb
                      have hl3 := (K5.out.good.at_ hf').2.1
                      obtain ⟨x, xc, rfl, hxs, _, hb6⟩ := NewBytes.out K5.out hN hfb
                      have K6 := Lib.hid (K5.out.on hb6)
                      have z0' := (hb6.cell (p := ⟨wr.heap.size, 0, none⟩) (block_lt_of_cell z0)).trans z0
                      have z1' := (hb6.cell (p := ⟨wr.heap.size, 1, none⟩) (block_lt_of_cell z1)).trans z1
                      have kcut : ∀ w, (Instr.slice 31 (.slice x f'.bs.length xc) none (some (.int .i64 (L.length : Int))) none).run Try.prog w = .ok (.slice x L.length xc) w := run_cut_to (P := Try.prog) 31 5 Try.underlying31 info_u8 x f'.bs.length xc L.length (by have := hxs.le; omega)
                      have kstr : (convert 31 9 (.slice x L.length xc)).run Try.prog w6 = .ok (.string (strOf L)) w6 := by
                        have := run_str (hxs.take (k := L.length) (by omega)) 31 5 9 Try.underlying31 Try.underlying5 Try.underlying9
                        rw [hl2] at this
                        exact this
                      have hlt6 : ¬ f'.bs.length < L.length := by omega
                      have Hhh := Lib.hid hh
                      clear hh hxs hN hfb hb6 z0 z1 RD hf' hl1 hl2 hl3
                      go_wp2
                      go_roundw
                      case rel => exact ⟨k + 1, true, L, t', O5, by omega, by go_num, rfl, rfl, K6.out, Hhh.out, HA.out.2.1⟩
                      case measure => simp [intOf]; omega
              · have br : (r' == 0) = false := by simpa using hr0
                have hst : Lst t.D t'.D name.data.toList := HLM.out.1 (fun h => by rcases h with ⟨_, h1, h2⟩ | ⟨_, h1, h2⟩ <;> first | omega | (rcases h2 with h2 | h2 <;> exact absurd (ba_list h2) (by assumption)) | exact absurd (ba_list h2) (by assumption))
                have hh := HA.out.1.step hst
                cases hd with
                | false =>
                  go_wp2_with fail
                  refine RD.out.mono ?_
                  rintro e w6 hN
                  have hfb := HF.out
                  obtain ⟨x, xc, rfl, hxs, _, hb6⟩ := NewBytes.out K5.out hN hfb
                  have K6 := Lib.hid (K5.out.on hb6)
                  have z0' := (hb6.cell (p := ⟨wr.heap.size, 0, none⟩) (block_lt_of_cell z0)).trans z0
                  have z1' := (hb6.cell (p := ⟨wr.heap.size, 1, none⟩) (block_lt_of_cell z1)).trans z1
                  have Hhh := Lib.hid hh
                  clear hh hxs hN hfb hb6 z0 z1 RD
                  go_wp2
                  go_roundw
                  case rel => exact ⟨k + 1, false, L, t', O5, by omega, by go_num, rfl, rfl, K6.out, Hhh.out, HA.out.2.1⟩
                  case measure => simp [intOf]; omega
                | true =>
                  go_wp2_with fail
                  refine RD.out.mono ?_
                  rintro e w6 hN
                  obtain ⟨f', hf', hl1, hl2⟩ := hh rfl
                  rw [hf'] at hN
                  change NewBytes w5 f'.bs true e w6 at hN
                  have hfb := HF.out
                  rw [hf'] at hfb
                  change ∀ c ∈ f'.bs, c < 256 at hfb
                  have hl3 := (K5.out.good.at_ hf').2.1
                  obtain ⟨x, xc, rfl, hxs, _, hb6⟩ := NewBytes.out K5.out hN hfb
                  have K6 := Lib.hid (K5.out.on hb6)
                  have z0' := (hb6.cell (p := ⟨wr.heap.size, 0, none⟩) (block_lt_of_cell z0)).trans z0
                  have z1' := (hb6.cell (p := ⟨wr.heap.size, 1, none⟩) (block_lt_of_cell z1)).trans z1
                  have kcut : ∀ w, (Instr.slice 31 (.slice x f'.bs.length xc) none (some (.int .i64 (L.length : Int))) none).run Try.prog w = .ok (.slice x L.length xc) w := run_cut_to (P := Try.prog) 31 5 Try.underlying31 info_u8 x f'.bs.length xc L.length (by have := hxs.le; omega)
                  have kstr : (convert 31 9 (.slice x L.length xc)).run Try.prog w6 = .ok (.string (strOf L)) w6 := by
                    have := run_str (hxs.take (k := L.length) (by omega)) 31 5 9 Try.underlying31 Try.underlying5 Try.underlying9
                    rw [hl2] at this
                    exact this
                  have hlt6 : ¬ f'.bs.length < L.length := by omega
                  have Hhh := Lib.hid hh
                  clear hh hxs hN hfb hb6 z0 z1 RD hf' hl1 hl2 hl3
                  go_wp2
                  go_roundw
                  case rel => exact ⟨k + 1, true, L, t', O5, by omega, by go_num, rfl, rfl, K6.out, Hhh.out, HA.out.2.1⟩
                  case measure => simp [intOf]; omega
            by_cases h6 : op.what = 6
            · rw [h6] at z0
              by_cases hr0 : r' = 0
              · subst hr0
                by_cases hn : op.nm = name
                · skip
                  go_wp2
                  go_roundw
                  case rel => exact ⟨k + 1, false, L, t', O5, by omega, by go_num, rfl, rfl, K5.out, Had.no _ _ _, HA.out.2.1⟩
                  case measure => simp [intOf]; omega
                · have bn : (op.nm.toList == name.toList) = false := str_ne hn
                  have hst : Lst t.D t'.D name.data.toList := HLM.out.1 (fun h => by rcases h with ⟨_, h1, h2⟩ | ⟨_, h1, h2⟩ <;> first | omega | (rcases h2 with h2 | h2 <;> exact absurd (ba_list h2) (by assumption)) | exact absurd (ba_list h2) (by assumption))
                  have hh := HA.out.1.step hst
                  cases hd with
                  | false =>
                    go_wp2_with fail
                    refine RD.out.mono ?_
                    rintro e w6 hN
                    have hfb := HF.out
                    obtain ⟨x, xc, rfl, hxs, _, hb6⟩ := NewBytes.out K5.out hN hfb
                    have K6 := Lib.hid (K5.out.on hb6)
                    have z0' := (hb6.cell (p := ⟨wr.heap.size, 0, none⟩) (block_lt_of_cell z0)).trans z0
                    have z1' := (hb6.cell (p := ⟨wr.heap.size, 1, none⟩) (block_lt_of_cell z1)).trans z1
                    have Hhh := Lib.hid hh
                    clear hh hxs hN hfb hb6 z0 z1 RD
                    go_wp2
                    go_roundw
                    case rel => exact ⟨k + 1, false, L, t', O5, by omega, by go_num, rfl, rfl, K6.out, Hhh.out, HA.out.2.1⟩
                    case measure => simp [intOf]; omega
                  | true =>
                    go_wp2_with fail
                    refine RD.out.mono ?_
                    rintro e w6 hN
                    obtain ⟨f', hf', hl1, hl2⟩ := hh rfl
                    rw [hf'] at hN
                    change NewBytes w5 f'.bs true e w6 at hN
                    have hfb := HF.out
                    rw [hf'] at hfb
                    change ∀ c ∈ f'.bs, c < 256 at hfb
                    have hl3 := (K5.out.good.at_ hf').2.1
                    obtain ⟨x, xc, rfl, hxs, _, hb6⟩ := NewBytes.out K5.out hN hfb
                    have K6 := Lib.hid (K5.out.on hb6)
                    have z0' := (hb6.cell (p := ⟨wr.heap.size, 0, none⟩) (block_lt_of_cell z0)).trans z0
                    have z1' := (hb6.cell (p := ⟨wr.heap.size, 1, none⟩) (block_lt_of_cell z1)).trans z1
                    have kcut : ∀ w, (Instr.slice 31 (.slice x f'.bs.length xc) none (some (.int .i64 (L.length : Int))) none).run Try.prog w = .ok (.slice x L.length xc) w := run_cut_to (P := Try.prog) 31 5 Try.underlying31 info_u8 x f'.bs.length xc L.length (by have := hxs.le; omega)
                    have kstr : (convert 31 9 (.slice x L.length xc)).run Try.prog w6 = .ok (.string (strOf L)) w6 := by
                      have := run_str (hxs.take (k := L.length) (by omega)) 31 5 9 Try.underlying31 Try.underlying5 Try.underlying9
                      rw [hl2] at this
                      exact this
                    have hlt6 : ¬ f'.bs.length < L.length := by omega
                    have Hhh := Lib.hid hh
                    clear hh hxs hN hfb hb6 z0 z1 RD hf' hl1 hl2 hl3
                    go_wp2
                    go_roundw
                    case rel => exact ⟨k + 1, true, L, t', O5, by omega, by go_num, rfl, rfl, K6.out, Hhh.out, HA.out.2.1⟩
                    case measure => simp [intOf]; omega
              · have br : (r' == 0) = false := by simpa using hr0
                have hst : Lst t.D t'.D name.data.toList := HLM.out.1 (fun h => by rcases h with ⟨_, h1, h2⟩ | ⟨_, h1, h2⟩ <;> first | omega | (rcases h2 with h2 | h2 <;> exact absurd (ba_list h2) (by assumption)) | exact absurd (ba_list h2) (by assumption))
                have hh := HA.out.1.step hst
                cases hd with
                | false =>
                  go_wp2_with fail
                  refine RD.out.mono ?_
                  rintro e w6 hN
                  have hfb := HF.out
                  obtain ⟨x, xc, rfl, hxs, _, hb6⟩ := NewBytes.out K5.out hN hfb
                  have K6 := Lib.hid (K5.out.on hb6)
                  have z0' := (hb6.cell (p := ⟨wr.heap.size, 0, none⟩) (block_lt_of_cell z0)).trans z0
                  have z1' := (hb6.cell (p := ⟨wr.heap.size, 1, none⟩) (block_lt_of_cell z1)).trans z1
                  have Hhh := Lib.hid hh
                  clear hh hxs hN hfb hb6 z0 z1 RD
                  go_wp2
                  go_roundw
                  case rel => exact ⟨k + 1, false, L, t', O5, by omega, by go_num, rfl, rfl, K6.out, Hhh.out, HA.out.2.1⟩
                  case measure => simp [intOf]; omega
                | true =>
                  go_wp2_with fail
                  refine RD.out.mono ?_
                  rintro e w6 hN
                  obtain ⟨f', hf', hl1, hl2⟩ := hh rfl
                  rw [hf'] at hN
                  change NewBytes w5 f'.bs true e w6 at hN
                  have hfb := HF.out
                  rw [hf'] at hfb
                  change ∀ c ∈ f'.bs, c < 256 at hfb
                  have hl3 := (K5.out.good.at_ hf').2.1
                  obtain ⟨x, xc, rfl, hxs, _, hb6⟩ := NewBytes.out K5.out hN hfb
                  have K6 := Lib.hid (K5.out.on hb6)
                  have z0' := (hb6.cell (p := ⟨wr.heap.size, 0, none⟩) (block_lt_of_cell z0)).trans z0
                  have z1' := (hb6.cell (p := ⟨wr.heap.size, 1, none⟩) (block_lt_of_cell z1)).trans z1
                  have kcut : ∀ w, (Instr.slice 31 (.slice x f'.bs.length xc) none (some (.int .i64 (L.length : Int))) none).run Try.prog w = .ok (.slice x L.length xc) w := run_cut_to (P := Try.prog) 31 5 Try.underlying31 info_u8 x f'.bs.length xc L.length (by have := hxs.le; omega)
                  have kstr : (convert 31 9 (.slice x L.length xc)).run Try.prog w6 = .ok (.string (strOf L)) w6 := by
                    have := run_str (hxs.take (k := L.length) (by omega)) 31 5 9 Try.underlying31 Try.underlying5 Try.underlying9
                    rw [hl2] at this
                    exact this
                  have hlt6 : ¬ f'.bs.length < L.length := by omega
                  have Hhh := Lib.hid hh
                  clear hh hxs hN hfb hb6 z0 z1 RD hf' hl1 hl2 hl3
                  go_wp2
                  go_roundw
                  case rel => exact ⟨k + 1, true, L, t', O5, by omega, by go_num, rfl, rfl, K6.out, Hhh.out, HA.out.2.1⟩
                  case measure => simp [intOf]; omega
            by_cases h3 : op.what = 3
            · rw [h3] at z0
              by_cases hr0 : r' = 0
              · subst hr0
                by_cases hn : op.nm = name
                · skip
                  have hst : Lst t.D t'.D name.data.toList := HLM.out.1 (fun h => by rcases h with ⟨_, h1, h2⟩ | ⟨_, h1, h2⟩ <;> first | omega | (rcases h2 with h2 | h2 <;> exact absurd (ba_list h2) (by assumption)) | exact absurd (ba_list h2) (by assumption))
                  have hh := HA.out.1.step hst
                  cases hd with
                  | false =>
                    cases hfc : fat t'.D name.data.toList with
                    | none =>
                      go_wp2_with fail
                      refine RD.out.mono ?_
                      rintro e w6 hN
                      rw [hfc] at hN
                      change NewBytes w5 [] false e w6 at hN
                      have hfb := HF.out
                      rw [hfc] at hfb
                      change ∀ c ∈ ([] : List Nat), c < 256 at hfb
                      obtain ⟨x, xc, rfl, hxs, _, hb6⟩ := NewBytes.out K5.out hN hfb
                      have K6 := Lib.hid (K5.out.on hb6)
                      have z0' := (hb6.cell (p := ⟨wr.heap.size, 0, none⟩) (block_lt_of_cell z0)).trans z0
                      have z1' := (hb6.cell (p := ⟨wr.heap.size, 1, none⟩) (block_lt_of_cell z1)).trans z1
                      have kall : (convert 31 9 (.slice x ([] : List Nat).length xc)).run Try.prog w6 = .ok (.string (strOf [])) w6 := run_str hxs 31 5 9 Try.underlying31 Try.underlying5 Try.underlying9
                      have SY := Lib.hid (K6.out.synced name (by unfold maxLen; omega))
                      rw [hfc] at SY
                      exact absurd hfc (HLM.out.2.2 ⟨by first | omega | trivial, by first | rfl | trivial, by rw [hn]⟩)
                    | some f0 =>
                      go_wp2_with fail
                      refine RD.out.mono ?_
                      rintro e w6 hN
                      rw [hfc] at hN
                      change NewBytes w5 f0.bs true e w6 at hN
                      have hfb := HF.out
                      rw [hfc] at hfb
                      change ∀ c ∈ (f0.bs : List Nat), c < 256 at hfb
                      obtain ⟨x, xc, rfl, hxs, _, hb6⟩ := NewBytes.out K5.out hN hfb
                      have K6 := Lib.hid (K5.out.on hb6)
                      have z0' := (hb6.cell (p := ⟨wr.heap.size, 0, none⟩) (block_lt_of_cell z0)).trans z0
                      have z1' := (hb6.cell (p := ⟨wr.heap.size, 1, none⟩) (block_lt_of_cell z1)).trans z1
                      have kall : (convert 31 9 (.slice x (f0.bs : List Nat).length xc)).run Try.prog w6 = .ok (.string (strOf f0.bs)) w6 := run_str hxs 31 5 9 Try.underlying31 Try.underlying5 Try.underlying9
                      have SY := Lib.hid (K6.out.synced name (by unfold maxLen; omega))
                      rw [hfc] at SY
                      have hll : f0.l = f0.bs.length := HLM.out.2.1 (.inl ⟨by first | omega | trivial, by first | rfl | trivial, by rw [hn]⟩) f0 hfc
                      change Hid (Calls Try.prog 27 #[.pointer (some ⟨dp, 0, none⟩), .string name] w6 fun e w' => e = .returned (.int .i64 (f0.l : Int)) ∧ w6 = w') at SY
                      rw [hll] at SY
                      have Hhh := Lib.hid (And.intro (Had.now hfc hll) hfb)
                      clear hh hxs hN hfb hb6 z0 z1 RD hfc hll
                      go_wp2_with (go_at_call 27; refine SY.out.mono ?_; rintro e w7 ⟨rfl, rfl⟩)
                      go_roundw
                      case rel => exact ⟨k + 1, true, f0.bs, t', O5, by omega, by go_num, rfl, rfl, K6.out, Hhh.out.1, Hhh.out.2⟩
                      case measure => simp [intOf]; omega
                  | true =>
                    go_wp2_with fail
                    refine RD.out.mono ?_
                    rintro e w6 hN
                    obtain ⟨f', hf', hl1, hl2⟩ := hh rfl
                    rw [hf'] at hN
                    change NewBytes w5 f'.bs true e w6 at hN
                    have hfb := HF.out
                    rw [hf'] at hfb
                    change ∀ c ∈ f'.bs, c < 256 at hfb
                    have hl3 := (K5.out.good.at_ hf').2.1
                    obtain ⟨x, xc, rfl, hxs, _, hb6⟩ := NewBytes.out K5.out hN hfb
                    have K6 := Lib.hid (K5.out.on hb6)
                    have z0' := (hb6.cell (p := ⟨wr.heap.size, 0, none⟩) (block_lt_of_cell z0)).trans z0
                    have z1' := (hb6.cell (p := ⟨wr.heap.size, 1, none⟩) (block_lt_of_cell z1)).trans z1
                    have kcut : ∀ w, (Instr.slice 31 (.slice x f'.bs.length xc) none (some (.int .i64 (L.length : Int))) none).run Try.prog w = .ok (.slice x L.length xc) w := run_cut_to (P := Try.prog) 31 5 Try.underlying31 info_u8 x f'.bs.length xc L.length (by have := hxs.le; omega)
                    have kstr : (convert 31 9 (.slice x L.length xc)).run Try.prog w6 = .ok (.string (strOf L)) w6 := by
                      have := run_str (hxs.take (k := L.length) (by omega)) 31 5 9 Try.underlying31 Try.underlying5 Try.underlying9
                      rw [hl2] at this
                      exact this
                    have hlt6 : ¬ f'.bs.length < L.length := by omega
                    have kall : (convert 31 9 (.slice x f'.bs.length xc)).run Try.prog w6 = .ok (.string (strOf f'.bs)) w6 := run_str hxs 31 5 9 Try.underlying31 Try.underlying5 Try.underlying9
                    have SY := Lib.hid (K6.out.synced name (by unfold maxLen; omega))
                    rw [hf'] at SY
                    have hll : f'.l = f'.bs.length := HLM.out.2.1 (.inl ⟨by first | omega | trivial, by first | rfl | trivial, by rw [hn]⟩) f' hf'
                    change Hid (Calls Try.prog 27 #[.pointer (some ⟨dp, 0, none⟩), .string name] w6 fun e w' => e = .returned (.int .i64 (f'.l : Int)) ∧ w6 = w') at SY
                    rw [hll] at SY
                    have Hhh := Lib.hid (And.intro (Had.now hf' hll) hfb)
                    clear hh hxs hN hfb hb6 z0 z1 RD hf' hl1 hl2 hl3 hll
                    go_wp2_with (go_at_call 27; refine SY.out.mono ?_; rintro e w7 ⟨rfl, rfl⟩)
                    go_roundw
                    case rel => exact ⟨k + 1, true, f'.bs, t', O5, by omega, by go_num, rfl, rfl, K6.out, Hhh.out.1, Hhh.out.2⟩
                    case measure => simp [intOf]; omega
                · have bn : (op.nm.toList == name.toList) = false := str_ne hn
                  have hst : Lst t.D t'.D name.data.toList := HLM.out.1 (fun h => by rcases h with ⟨_, h1, h2⟩ | ⟨_, h1, h2⟩ <;> first | omega | (rcases h2 with h2 | h2 <;> exact absurd (ba_list h2) (by assumption)) | exact absurd (ba_list h2) (by assumption))
                  have hh := HA.out.1.step hst
                  cases hd with
                  | false =>
                    go_wp2_with fail
                    refine RD.out.mono ?_
                    rintro e w6 hN
                    have hfb := HF.out
                    obtain ⟨x, xc, rfl, hxs, _, hb6⟩ := NewBytes.out K5.out hN hfb
                    have K6 := Lib.hid (K5.out.on hb6)
                    have z0' := (hb6.cell (p := ⟨wr.heap.size, 0, none⟩) (block_lt_of_cell z0)).trans z0
                    have z1' := (hb6.cell (p := ⟨wr.heap.size, 1, none⟩) (block_lt_of_cell z1)).trans z1
                    have Hhh := Lib.hid hh
                    clear hh hxs hN hfb hb6 z0 z1 RD
                    go_wp2
                    go_roundw
                    case rel => exact ⟨k + 1, false, L, t', O5, by omega, by go_num, rfl, rfl, K6.out, Hhh.out, HA.out.2.1⟩
                    case measure => simp [intOf]; omega
                  | true =>
                    go_wp2_with fail
                    refine RD.out.mono ?_
                    rintro e w6 hN
                    obtain ⟨f', hf', hl1, hl2⟩ := hh rfl
                    rw [hf'] at hN
                    change NewBytes w5 f'.bs true e w6 at hN
                    have hfb := HF.out
                    rw [hf'] at hfb
                    change ∀ c ∈ f'.bs, c < 256 at hfb
                    have hl3 := (K5.out.good.at_ hf').2.1
                    obtain ⟨x, xc, rfl, hxs, _, hb6⟩ := NewBytes.out K5.out hN hfb
                    have K6 := Lib.hid (K5.out.on hb6)
                    have z0' := (hb6.cell (p := ⟨wr.heap.size, 0, none⟩) (block_lt_of_cell z0)).trans z0
                    have z1' := (hb6.cell (p := ⟨wr.heap.size, 1, none⟩) (block_lt_of_cell z1)).trans z1
                    have kcut : ∀ w, (Instr.slice 31 (.slice x f'.bs.length xc) none (some (.int .i64 (L.length : Int))) none).run Try.prog w = .ok (.slice x L.length xc) w := run_cut_to (P := Try.prog) 31 5 Try.underlying31 info_u8 x f'.bs.length xc L.length (by have := hxs.le; omega)
                    have kstr : (convert 31 9 (.slice x L.length xc)).run Try.prog w6 = .ok (.string (strOf L)) w6 := by
                      have := run_str (hxs.take (k := L.length) (by omega)) 31 5 9 Try.underlying31 Try.underlying5 Try.underlying9
                      rw [hl2] at this
                      exact this
                    have hlt6 : ¬ f'.bs.length < L.length := by omega
                    have Hhh := Lib.hid hh
                    clear hh hxs hN hfb hb6 z0 z1 RD hf' hl1 hl2 hl3
                    go_wp2
                    go_roundw
                    case rel => exact ⟨k + 1, true, L, t', O5, by omega, by go_num, rfl, rfl, K6.out, Hhh.out, HA.out.2.1⟩
                    case measure => simp [intOf]; omega
              · have br : (r' == 0) = false := by simpa using hr0
                have hst : Lst t.D t'.D name.data.toList := HLM.out.1 (fun h => by rcases h with ⟨_, h1, h2⟩ | ⟨_, h1, h2⟩ <;> first | omega | (rcases h2 with h2 | h2 <;> exact absurd (ba_list h2) (by assumption)) | exact absurd (ba_list h2) (by assumption))
                have hh := HA.out.1.step hst
                cases hd with
                | false =>
                  go_wp2_with fail
                  refine RD.out.mono ?_
                  rintro e w6 hN
                  have hfb := HF.out
                  obtain ⟨x, xc, rfl, hxs, _, hb6⟩ := NewBytes.out K5.out hN hfb
                  have K6 := Lib.hid (K5.out.on hb6)
                  have z0' := (hb6.cell (p := ⟨wr.heap.size, 0, none⟩) (block_lt_of_cell z0)).trans z0
                  have z1' := (hb6.cell (p := ⟨wr.heap.size, 1, none⟩) (block_lt_of_cell z1)).trans z1
                  have Hhh := Lib.hid hh
                  clear hh hxs hN hfb hb6 z0 z1 RD
                  go_wp2
                  go_roundw
                  case rel => exact ⟨k + 1, false, L, t', O5, by omega, by go_num, rfl, rfl, K6.out, Hhh.out, HA.out.2.1⟩
                  case measure => simp [intOf]; omega
                | true =>
                  go_wp2_with fail
                  refine RD.out.mono ?_
                  rintro e w6 hN
                  obtain ⟨f', hf', hl1, hl2⟩ := hh rfl
                  rw [hf'] at hN
                  change NewBytes w5 f'.bs true e w6 at hN
                  have hfb := HF.out
                  rw [hf'] at hfb
                  change ∀ c ∈ f'.bs, c < 256 at hfb
                  have hl3 := (K5.out.good.at_ hf').2.1
                  obtain ⟨x, xc, rfl, hxs, _, hb6⟩ := NewBytes.out K5.out hN hfb
                  have K6 := Lib.hid (K5.out.on hb6)
                  have z0' := (hb6.cell (p := ⟨wr.heap.size, 0, none⟩) (block_lt_of_cell z0)).trans z0
                  have z1' := (hb6.cell (p := ⟨wr.heap.size, 1, none⟩) (block_lt_of_cell z1)).trans z1
                  have kcut : ∀ w, (Instr.slice 31 (.slice x f'.bs.length xc) none (some (.int .i64 (L.length : Int))) none).run Try.prog w = .ok (.slice x L.length xc) w := run_cut_to (P := Try.prog) 31 5 Try.underlying31 info_u8 x f'.bs.length xc L.length (by have := hxs.le; omega)
                  have kstr : (convert 31 9 (.slice x L.length xc)).run Try.prog w6 = .ok (.string (strOf L)) w6 := by
                    have := run_str (hxs.take (k := L.length) (by omega)) 31 5 9 Try.underlying31 Try.underlying5 Try.underlying9
                    rw [hl2] at this
                    exact this
                  have hlt6 : ¬ f'.bs.length < L.length := by omega
                  have Hhh := Lib.hid hh
                  clear hh hxs hN hfb hb6 z0 z1 RD hf' hl1 hl2 hl3
                  go_wp2
                  go_roundw
                  case rel => exact ⟨k + 1, true, L, t', O5, by omega, by go_num, rfl, rfl, K6.out, Hhh.out, HA.out.2.1⟩
                  case measure => simp [intOf]; omega
            by_cases h4 : op.what = 4
            · rw [h4] at z0
              by_cases hr0 : r' = 0
              · subst hr0
                by_cases hn : op.nm = name
                · skip
                  have hst : Lst t.D t'.D name.data.toList := HLM.out.1 (fun h => by rcases h with ⟨_, h1, h2⟩ | ⟨_, h1, h2⟩ <;> first | omega | (rcases h2 with h2 | h2 <;> exact absurd (ba_list h2) (by assumption)) | exact absurd (ba_list h2) (by assumption))
                  have hh := HA.out.1.step hst
                  cases hd with
                  | false =>
                    cases hfc : fat t'.D name.data.toList with
                    | none =>
                      go_wp2_with fail
                      refine RD.out.mono ?_
                      rintro e w6 hN
                      rw [hfc] at hN
                      change NewBytes w5 [] false e w6 at hN
                      have hfb := HF.out
                      rw [hfc] at hfb
                      change ∀ c ∈ ([] : List Nat), c < 256 at hfb
                      obtain ⟨x, xc, rfl, hxs, _, hb6⟩ := NewBytes.out K5.out hN hfb
                      have K6 := Lib.hid (K5.out.on hb6)
                      have z0' := (hb6.cell (p := ⟨wr.heap.size, 0, none⟩) (block_lt_of_cell z0)).trans z0
                      have z1' := (hb6.cell (p := ⟨wr.heap.size, 1, none⟩) (block_lt_of_cell z1)).trans z1
                      have kall : (convert 31 9 (.slice x ([] : List Nat).length xc)).run Try.prog w6 = .ok (.string (strOf [])) w6 := run_str hxs 31 5 9 Try.underlying31 Try.underlying5 Try.underlying9
                      have SY := Lib.hid (K6.out.synced name (by unfold maxLen; omega))
                      rw [hfc] at SY
                      exact absurd hfc (HLM.out.2.2 ⟨by first | omega | trivial, by first | rfl | trivial, by rw [hn]⟩)
                    | some f0 =>
                      go_wp2_with fail
                      refine RD.out.mono ?_
                      rintro e w6 hN
                      rw [hfc] at hN
                      change NewBytes w5 f0.bs true e w6 at hN
                      have hfb := HF.out
                      rw [hfc] at hfb
                      change ∀ c ∈ (f0.bs : List Nat), c < 256 at hfb
                      obtain ⟨x, xc, rfl, hxs, _, hb6⟩ := NewBytes.out K5.out hN hfb
                      have K6 := Lib.hid (K5.out.on hb6)
                      have z0' := (hb6.cell (p := ⟨wr.heap.size, 0, none⟩) (block_lt_of_cell z0)).trans z0
                      have z1' := (hb6.cell (p := ⟨wr.heap.size, 1, none⟩) (block_lt_of_cell z1)).trans z1
                      have kall : (convert 31 9 (.slice x (f0.bs : List Nat).length xc)).run Try.prog w6 = .ok (.string (strOf f0.bs)) w6 := run_str hxs 31 5 9 Try.underlying31 Try.underlying5 Try.underlying9
                      have SY := Lib.hid (K6.out.synced name (by unfold maxLen; omega))
                      rw [hfc] at SY
                      have hll : f0.l = f0.bs.length := HLM.out.2.1 (.inl ⟨by first | omega | trivial, by first | rfl | trivial, by rw [hn]⟩) f0 hfc
                      change Hid (Calls Try.prog 27 #[.pointer (some ⟨dp, 0, none⟩), .string name] w6 fun e w' => e = .returned (.int .i64 (f0.l : Int)) ∧ w6 = w') at SY
                      rw [hll] at SY
                      have Hhh := Lib.hid (And.intro (Had.now hfc hll) hfb)
                      clear hh hxs hN hfb hb6 z0 z1 RD hfc hll
                      go_wp2_with (go_at_call 27; refine SY.out.mono ?_; rintro e w7 ⟨rfl, rfl⟩)
                      go_roundw
                      case rel => exact ⟨k + 1, true, f0.bs, t', O5, by omega, by go_num, rfl, rfl, K6.out, Hhh.out.1, Hhh.out.2⟩
                      case measure => simp [intOf]; omega
                  | true =>
                    go_wp2_with fail
                    refine RD.out.mono ?_
                    rintro e w6 hN
                    obtain ⟨f', hf', hl1, hl2⟩ := hh rfl
                    rw [hf'] at hN
                    change NewBytes w5 f'.bs true e w6 at hN
                    have hfb := HF.out
                    rw [hf'] at hfb
                    change ∀ c ∈ f'.bs, c < 256 at hfb
                    have hl3 := (K5.out.good.at_ hf').2.1
                    obtain ⟨x, xc, rfl, hxs, _, hb6⟩ := NewBytes.out K5.out hN hfb
                    have K6 := Lib.hid (K5.out.on hb6)
                    have z0' := (hb6.cell (p := ⟨wr.heap.size, 0, none⟩) (block_lt_of_cell z0)).trans z0
                    have z1' := (hb6.cell (p := ⟨wr.heap.size, 1, none⟩) (block_lt_of_cell z1)).trans z1
                    have kcut : ∀ w, (Instr.slice 31 (.slice x f'.bs.length xc) none (some (.int .i64 (L.length : Int))) none).run Try.prog w = .ok (.slice x L.length xc) w := run_cut_to (P := Try.prog) 31 5 Try.underlying31 info_u8 x f'.bs.length xc L.length (by have := hxs.le; omega)
                    have kstr : (convert 31 9 (.slice x L.length xc)).run Try.prog w6 = .ok (.string (strOf L)) w6 := by
                      have := run_str (hxs.take (k := L.length) (by omega)) 31 5 9 Try.underlying31 Try.underlying5 Try.underlying9
                      rw [hl2] at this
                      exact this
                    have hlt6 : ¬ f'.bs.length < L.length := by omega
                    have kall : (convert 31 9 (.slice x f'.bs.length xc)).run Try.prog w6 = .ok (.string (strOf f'.bs)) w6 := run_str hxs 31 5 9 Try.underlying31 Try.underlying5 Try.underlying9
                    have SY := Lib.hid (K6.out.synced name (by unfold maxLen; omega))
                    rw [hf'] at SY
                    have hll : f'.l = f'.bs.length := HLM.out.2.1 (.inl ⟨by first | omega | trivial, by first | rfl | trivial, by rw [hn]⟩) f' hf'
                    change Hid (Calls Try.prog 27 #[.pointer (some ⟨dp, 0, none⟩), .string name] w6 fun e w' => e = .returned (.int .i64 (f'.l : Int)) ∧ w6 = w') at SY
                    rw [hll] at SY
                    have Hhh := Lib.hid (And.intro (Had.now hf' hll) hfb)
                    clear hh hxs hN hfb hb6 z0 z1 RD hf' hl1 hl2 hl3 hll
                    go_wp2_with (go_at_call 27; refine SY.out.mono ?_; rintro e w7 ⟨rfl, rfl⟩)
                    go_roundw
                    case rel => exact ⟨k + 1, true, f'.bs, t', O5, by omega, by go_num, rfl, rfl, K6.out, Hhh.out.1, Hhh.out.2⟩
                    case measure => simp [intOf]; omega
                · have bn : (op.nm.toList == name.toList) = false := str_ne hn
                  have hst : Lst t.D t'.D name.data.toList := HLM.out.1 (fun h => by rcases h with ⟨_, h1, h2⟩ | ⟨_, h1, h2⟩ <;> first | omega | (rcases h2 with h2 | h2 <;> exact absurd (ba_list h2) (by assumption)) | exact absurd (ba_list h2) (by assumption))
                  have hh := HA.out.1.step hst
                  cases hd with
                  | false =>
                    go_wp2_with fail
                    refine RD.out.mono ?_
                    rintro e w6 hN
                    have hfb := HF.out
                    obtain ⟨x, xc, rfl, hxs, _, hb6⟩ := NewBytes.out K5.out hN hfb
                    have K6 := Lib.hid (K5.out.on hb6)
                    have z0' := (hb6.cell (p := ⟨wr.heap.size, 0, none⟩) (block_lt_of_cell z0)).trans z0
                    have z1' := (hb6.cell (p := ⟨wr.heap.size, 1, none⟩) (block_lt_of_cell z1)).trans z1
                    have Hhh := Lib.hid hh
                    clear hh hxs hN hfb hb6 z0 z1 RD
                    go_wp2
                    go_roundw
                    case rel => exact ⟨k + 1, false, L, t', O5, by omega, by go_num, rfl, rfl, K6.out, Hhh.out, HA.out.2.1⟩
                    case measure => simp [intOf]; omega
                  | true =>
                    go_wp2_with fail
                    refine RD.out.mono ?_
                    rintro e w6 hN
                    obtain ⟨f', hf', hl1, hl2⟩ := hh rfl
                    rw [hf'] at hN
                    change NewBytes w5 f'.bs true e w6 at hN
                    have hfb := HF.out
                    rw [hf'] at hfb
                    change ∀ c ∈ f'.bs, c < 256 at hfb
                    have hl3 := (K5.out.good.at_ hf').2.1
                    obtain ⟨x, xc, rfl, hxs, _, hb6⟩ := NewBytes.out K5.out hN hfb
                    have K6 := Lib.hid (K5.out.on hb6)
                    have z0' := (hb6.cell (p := ⟨wr.heap.size, 0, none⟩) (block_lt_of_cell z0)).trans z0
                    have z1' := (hb6.cell (p := ⟨wr.heap.size, 1, none⟩) (block_lt_of_cell z1)).trans z1
                    have kcut : ∀ w, (Instr.slice 31 (.slice x f'.bs.length xc) none (some (.int .i64 (L.length : Int))) none).run Try.prog w = .ok (.slice x L.length xc) w := run_cut_to (P := Try.prog) 31 5 Try.underlying31 info_u8 x f'.bs.length xc L.length (by have := hxs.le; omega)
                    have kstr : (convert 31 9 (.slice x L.length xc)).run Try.prog w6 = .ok (.string (strOf L)) w6 := by
                      have := run_str (hxs.take (k := L.length) (by omega)) 31 5 9 Try.underlying31 Try.underlying5 Try.underlying9
                      rw [hl2] at this
                      exact this
                    have hlt6 : ¬ f'.bs.length < L.length := by omega
                    have Hhh := Lib.hid hh
                    clear hh hxs hN hfb hb6 z0 z1 RD hf' hl1 hl2 hl3
                    go_wp2
                    go_roundw
                    case rel => exact ⟨k + 1, true, L, t', O5, by omega, by go_num, rfl, rfl, K6.out, Hhh.out, HA.out.2.1⟩
                    case measure => simp [intOf]; omega
              · have br : (r' == 0) = false := by simpa using hr0
                have hst : Lst t.D t'.D name.data.toList := HLM.out.1 (fun h => by rcases h with ⟨_, h1, h2⟩ | ⟨_, h1, h2⟩ <;> first | omega | (rcases h2 with h2 | h2 <;> exact absurd (ba_list h2) (by assumption)) | exact absurd (ba_list h2) (by assumption))
                have hh := HA.out.1.step hst
                cases hd with
                | false =>
                  go_wp2_with fail
                  refine RD.out.mono ?_
                  rintro e w6 hN
                  have hfb := HF.out
                  obtain ⟨x, xc, rfl, hxs, _, hb6⟩ := NewBytes.out K5.out hN hfb
                  have K6 := Lib.hid (K5.out.on hb6)
                  have z0' := (hb6.cell (p := ⟨wr.heap.size, 0, none⟩) (block_lt_of_cell z0)).trans z0
                  have z1' := (hb6.cell (p := ⟨wr.heap.size, 1, none⟩) (block_lt_of_cell z1)).trans z1
                  have Hhh := Lib.hid hh
                  clear hh hxs hN hfb hb6 z0 z1 RD
                  go_wp2
                  go_roundw
                  case rel => exact ⟨k + 1, false, L, t', O5, by omega, by go_num, rfl, rfl, K6.out, Hhh.out, HA.out.2.1⟩
                  case measure => simp [intOf]; omega
                | true =>
                  go_wp2_with fail
                  refine RD.out.mono ?_
                  rintro e w6 hN
                  obtain ⟨f', hf', hl1, hl2⟩ := hh rfl
                  rw [hf'] at hN
                  change NewBytes w5 f'.bs true e w6 at hN
                  have hfb := HF.out
                  rw [hf'] at hfb
                  change ∀ c ∈ f'.bs, c < 256 at hfb
                  have hl3 := (K5.out.good.at_ hf').2.1
                  obtain ⟨x, xc, rfl, hxs, _, hb6⟩ := NewBytes.out K5.out hN hfb
                  have K6 := Lib.hid (K5.out.on hb6)
                  have z0' := (hb6.cell (p := ⟨wr.heap.size, 0, none⟩) (block_lt_of_cell z0)).trans z0
                  have z1' := (hb6.cell (p := ⟨wr.heap.size, 1, none⟩) (block_lt_of_cell z1)).trans z1
                  have kcut : ∀ w, (Instr.slice 31 (.slice x f'.bs.length xc) none (some (.int .i64 (L.length : Int))) none).run Try.prog w = .ok (.slice x L.length xc) w := run_cut_to (P := Try.prog) 31 5 Try.underlying31 info_u8 x f'.bs.length xc L.length (by have := hxs.le; omega)
                  have kstr : (convert 31 9 (.slice x L.length xc)).run Try.prog w6 = .ok (.string (strOf L)) w6 := by
                    have := run_str (hxs.take (k := L.length) (by omega)) 31 5 9 Try.underlying31 Try.underlying5 Try.underlying9
                    rw [hl2] at this
                    exact this
                  have hlt6 : ¬ f'.bs.length < L.length := by omega
                  have Hhh := Lib.hid hh
                  clear hh hxs hN hfb hb6 z0 z1 RD hf' hl1 hl2 hl3
                  go_wp2
                  go_roundw
                  case rel => exact ⟨k + 1, true, L, t', O5, by omega, by go_num, rfl, rfl, K6.out, Hhh.out, HA.out.2.1⟩
                  case measure => simp [intOf]; omega
            by_cases h9' : op.what = 9
            · rw [h9'] at z0
              have hst : Lst t.D t'.D name.data.toList := HLM.out.1 (fun h => by rcases h with ⟨_, h1, h2⟩ | ⟨_, h1, h2⟩ <;> first | omega | (rcases h2 with h2 | h2 <;> exact absurd (ba_list h2) (by assumption)) | exact absurd (ba_list h2) (by assumption))
              have hh := HA.out.1.step hst
              cases hd with
              | false =>
                cases hfc : fat t'.D name.data.toList with
                | none =>
                  go_wp2_with fail
                  refine RD.out.mono ?_
                  rintro e w6 hN
                  rw [hfc] at hN
                  change NewBytes w5 [] false e w6 at hN
                  have hfb := HF.out
                  rw [hfc] at hfb
                  change ∀ c ∈ ([] : List Nat), c < 256 at hfb
                  obtain ⟨x, xc, rfl, hxs, _, hb6⟩ := NewBytes.out K5.out hN hfb
                  have K6 := Lib.hid (K5.out.on hb6)
                  have z0' := (hb6.cell (p := ⟨wr.heap.size, 0, none⟩) (block_lt_of_cell z0)).trans z0
                  have z1' := (hb6.cell (p := ⟨wr.heap.size, 1, none⟩) (block_lt_of_cell z1)).trans z1
                  have kall : (convert 31 9 (.slice x ([] : List Nat).length xc)).run Try.prog w6 = .ok (.string (strOf [])) w6 := run_str hxs 31 5 9 Try.underlying31 Try.underlying5 Try.underlying9
                  have SY := Lib.hid (K6.out.synced name (by unfold maxLen; omega))
                  rw [hfc] at SY
                  have Hhh := Lib.hid hh
                  clear hh hxs hN hfb hb6 z0 z1 RD hfc SY kall
                  go_wp2
                  go_roundw
                  case rel => exact ⟨k + 1, false, L, t', O5, by omega, by go_num, rfl, rfl, K6.out, Hhh.out, HA.out.2.1⟩
                  case measure => simp [intOf]; omega
                | some f0 =>
                  go_wp2_with fail
                  refine RD.out.mono ?_
                  rintro e w6 hN
                  rw [hfc] at hN
                  change NewBytes w5 f0.bs true e w6 at hN
                  have hfb := HF.out
                  rw [hfc] at hfb
                  change ∀ c ∈ (f0.bs : List Nat), c < 256 at hfb
                  obtain ⟨x, xc, rfl, hxs, _, hb6⟩ := NewBytes.out K5.out hN hfb
                  have K6 := Lib.hid (K5.out.on hb6)
                  have z0' := (hb6.cell (p := ⟨wr.heap.size, 0, none⟩) (block_lt_of_cell z0)).trans z0
                  have z1' := (hb6.cell (p := ⟨wr.heap.size, 1, none⟩) (block_lt_of_cell z1)).trans z1
                  have kall : (convert 31 9 (.slice x (f0.bs : List Nat).length xc)).run Try.prog w6 = .ok (.string (strOf f0.bs)) w6 := run_str hxs 31 5 9 Try.underlying31 Try.underlying5 Try.underlying9
                  have SY := Lib.hid (K6.out.synced name (by unfold maxLen; omega))
                  rw [hfc] at SY
                  have hll : f0.l = f0.bs.length := HLM.out.2.1 (.inr (by omega)) f0 hfc
                  change Hid (Calls Try.prog 27 #[.pointer (some ⟨dp, 0, none⟩), .string name] w6 fun e w' => e = .returned (.int .i64 (f0.l : Int)) ∧ w6 = w') at SY
                  rw [hll] at SY
                  have Hhh := Lib.hid (And.intro (Had.now hfc hll) hfb)
                  clear hh hxs hN hfb hb6 z0 z1 RD hfc hll
                  go_wp2_with (go_at_call 27; refine SY.out.mono ?_; rintro e w7 ⟨rfl, rfl⟩)
                  go_roundw
                  case rel => exact ⟨k + 1, true, f0.bs, t', O5, by omega, by go_num, rfl, rfl, K6.out, Hhh.out.1, Hhh.out.2⟩
                  case measure => simp [intOf]; omega
              | true =>
                go_wp2_with fail
                refine RD.out.mono ?_
                rintro e w6 hN
                obtain ⟨f', hf', hl1, hl2⟩ := hh rfl
                rw [hf'] at hN
                change NewBytes w5 f'.bs true e w6 at hN
                have hfb := HF.out
                rw [hf'] at hfb
                change ∀ c ∈ f'.bs, c < 256 at hfb
                have hl3 := (K5.out.good.at_ hf').2.1
                obtain ⟨x, xc, rfl, hxs, _, hb6⟩ := NewBytes.out K5.out hN hfb
                have K6 := Lib.hid (K5.out.on hb6)
                have z0' := (hb6.cell (p := ⟨wr.heap.size, 0, none⟩) (block_lt_of_cell z0)).trans z0
                have z1' := (hb6.cell (p := ⟨wr.heap.size, 1, none⟩) (block_lt_of_cell z1)).trans z1
                have kcut : ∀ w, (Instr.slice 31 (.slice x f'.bs.length xc) none (some (.int .i64 (L.length : Int))) none).run Try.prog w = .ok (.slice x L.length xc) w := run_cut_to (P := Try.prog) 31 5 Try.underlying31 info_u8 x f'.bs.length xc L.length (by have := hxs.le; omega)
                have kstr : (convert 31 9 (.slice x L.length xc)).run Try.prog w6 = .ok (.string (strOf L)) w6 := by
                  have := run_str (hxs.take (k := L.length) (by omega)) 31 5 9 Try.underlying31 Try.underlying5 Try.underlying9
                  rw [hl2] at this
                  exact this
                have hlt6 : ¬ f'.bs.length < L.length := by omega
                have kall : (convert 31 9 (.slice x f'.bs.length xc)).run Try.prog w6 = .ok (.string (strOf f'.bs)) w6 := run_str hxs 31 5 9 Try.underlying31 Try.underlying5 Try.underlying9
                have SY := Lib.hid (K6.out.synced name (by unfold maxLen; omega))
                rw [hf'] at SY
                have hll : f'.l = f'.bs.length := HLM.out.2.1 (.inr (by omega)) f' hf'
                change Hid (Calls Try.prog 27 #[.pointer (some ⟨dp, 0, none⟩), .string name] w6 fun e w' => e = .returned (.int .i64 (f'.l : Int)) ∧ w6 = w') at SY
                rw [hll] at SY
                have Hhh := Lib.hid (And.intro (Had.now hf' hll) hfb)
                clear hh hxs hN hfb hb6 z0 z1 RD hf' hl1 hl2 hl3 hll
                go_wp2_with (go_at_call 27; refine SY.out.mono ?_; rintro e w7 ⟨rfl, rfl⟩)
                go_roundw
                case rel => exact ⟨k + 1, true, f'.bs, t', O5, by omega, by go_num, rfl, rfl, K6.out, Hhh.out.1, Hhh.out.2⟩
                case measure => simp [intOf]; omega
            have hst : Lst t.D t'.D name.data.toList := HLM.out.1 (fun h => by rcases h with ⟨_, h1, h2⟩ | ⟨_, h1, h2⟩ <;> first | omega | (rcases h2 with h2 | h2 <;> exact absurd (ba_list h2) (by assumption)) | exact absurd (ba_list h2) (by assumption))
            have hh := HA.out.1.step hst
            cases hd with
            | false =>
              go_wp2_with fail
              refine RD.out.mono ?_
              rintro e w6 hN
              have hfb := HF.out
              obtain ⟨x, xc, rfl, hxs, _, hb6⟩ := NewBytes.out K5.out hN hfb
              have K6 := Lib.hid (K5.out.on hb6)
              have z0' := (hb6.cell (p := ⟨wr.heap.size, 0, none⟩) (block_lt_of_cell z0)).trans z0
              have z1' := (hb6.cell (p := ⟨wr.heap.size, 1, none⟩) (block_lt_of_cell z1)).trans z1
              have Hhh := Lib.hid hh
              clear hh hxs hN hfb hb6 z0 z1 RD
              go_wp2
              go_roundw
              case rel => exact ⟨k + 1, false, L, t', O5, by omega, by go_num, rfl, rfl, K6.out, Hhh.out, HA.out.2.1⟩
              case measure => simp [intOf]; omega
            | true =>
              go_wp2_with fail
              refine RD.out.mono ?_
              rintro e w6 hN
              obtain ⟨f', hf', hl1, hl2⟩ := hh rfl
              rw [hf'] at hN
              change NewBytes w5 f'.bs true e w6 at hN
              have hfb := HF.out
              rw [hf'] at hfb
              change ∀ c ∈ f'.bs, c < 256 at hfb
              have hl3 := (K5.out.good.at_ hf').2.1
              obtain ⟨x, xc, rfl, hxs, _, hb6⟩ := NewBytes.out K5.out hN hfb
              have K6 := Lib.hid (K5.out.on hb6)
              have z0' := (hb6.cell (p := ⟨wr.heap.size, 0, none⟩) (block_lt_of_cell z0)).trans z0
              have z1' := (hb6.cell (p := ⟨wr.heap.size, 1, none⟩) (block_lt_of_cell z1)).trans z1
              have kcut : ∀ w, (Instr.slice 31 (.slice x f'.bs.length xc) none (some (.int .i64 (L.length : Int))) none).run Try.prog w = .ok (.slice x L.length xc) w := run_cut_to (P := Try.prog) 31 5 Try.underlying31 info_u8 x f'.bs.length xc L.length (by have := hxs.le; omega)
              have kstr : (convert 31 9 (.slice x L.length xc)).run Try.prog w6 = .ok (.string (strOf L)) w6 := by
                have := run_str (hxs.take (k := L.length) (by omega)) 31 5 9 Try.underlying31 Try.underlying5 Try.underlying9
                rw [hl2] at this
                exact this
              have hlt6 : ¬ f'.bs.length < L.length := by omega
              have Hhh := Lib.hid hh
              clear hh hxs hN hfb hb6 z0 z1 RD hf' hl1 hl2 hl3
              go_wp2
              go_roundw
              case rel => exact ⟨k + 1, true, L, t', O5, by omega, by go_num, rfl, rfl, K6.out, Hhh.out, HA.out.2.1⟩
              case measure => simp [intOf]; omega
          · have HE := Lib.hid HB
            clear hkd hhad hLb HB
            go_wp2
            go_ret
            exact ⟨rfl, HE.out⟩
      · go_wp2
        go_ret
        exact ⟨rfl, HB3.out⟩
    · go_wp2
      go_ret
      exact ⟨rfl, HB3.out⟩
  · have N2 := Lib.hid (fun w => new_no room hroom w)
    clear hroom
    go_wp2_with fail
    refine (N2.out _).mono ?_
    rintro e w2 ⟨rfl, rfl⟩
    go_wp2
    go_ret
    exact ⟨rfl, HB1.out⟩
end Go.Proofs.Yticjnjonhdcciaa
