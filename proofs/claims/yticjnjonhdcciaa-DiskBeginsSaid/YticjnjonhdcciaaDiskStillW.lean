/- The walk of DiskStill. -/
import Derived.Test.YticjnjonhdcciaaDkQ
namespace Go.Proofs.Yticjnjonhdcciaa
open Go.RowKit Go.Sort
open Go.Maps
attribute [local go_sem] Oper.semAt_some

theorem write_live (t : St) (s : List UInt8) (b : List Nat) (h : t.fuse ≠ 0) : (t.write s b).1 ≠ 42 ∧ (t.write s b).2.fuse = burn t.fuse := by
  unfold St.write
  rw [if_neg h]
  split
  · exact ⟨by simp, rfl⟩
  · split <;> exact ⟨by simp, rfl⟩
theorem do_fuse (t : St) (op : OpV) (h : ¬ (7 ≤ op.what ∧ op.what ≤ 9)) : ((t.do_ op).1 = 42 ↔ t.fuse = 0) ∧ (t.do_ op).2.fuse = burn t.fuse := by
  have h0 : t.fuse = 0 → burn t.fuse = t.fuse := fun e => by unfold burn; rw [if_neg (by omega)]
  by_cases hf : t.fuse = 0
  · rw [h0 hf]
    unfold St.do_
    split
    · unfold St.sync; rw [if_pos hf]; exact ⟨⟨fun _ => hf, fun _ => rfl⟩, rfl⟩
    split
    · unfold St.rename; rw [if_pos hf]; exact ⟨⟨fun _ => hf, fun _ => rfl⟩, rfl⟩
    split
    · unfold St.delete; rw [if_pos hf]; exact ⟨⟨fun _ => hf, fun _ => rfl⟩, rfl⟩
    rw [if_neg (by omega), if_neg (by omega), if_neg (by omega)]
    unfold St.write; rw [if_pos hf]; exact ⟨⟨fun _ => hf, fun _ => rfl⟩, rfl⟩
  · unfold St.do_
    split
    · unfold St.sync; rw [if_neg hf]
      split
      · exact ⟨⟨fun h => by simp at h, fun h => absurd h hf⟩, rfl⟩
      · split <;> exact ⟨⟨fun h => by simp at h, fun h => absurd h hf⟩, rfl⟩
    split
    · unfold St.rename; rw [if_neg hf]
      split
      · exact ⟨⟨fun h => by simp at h, fun h => absurd h hf⟩, rfl⟩
      · split <;> exact ⟨⟨fun h => by simp at h, fun h => absurd h hf⟩, rfl⟩
    split
    · unfold St.delete; rw [if_neg hf]
      split <;> exact ⟨⟨fun h => by simp at h, fun h => absurd h hf⟩, rfl⟩
    rw [if_neg (by omega), if_neg (by omega), if_neg (by omega)]
    exact ⟨⟨fun h => absurd h (write_live t _ _ hf).1, fun h => absurd h hf⟩, (write_live t _ _ hf).2⟩
/-- The six cells of an operation, in a later world. -/
theorem OpsIn.at_later {w w' : World} {B : Nat} {a : Option Addr} {len cap : Nat} {l : List OpV} (h : OpsIn w B a len cap l) (hb : Below B w w') {k : Nat} (hk : k < len) : ∃ b o op, a = some ⟨b, o, none⟩ ∧ l[k]? = some op ∧
    (w'.cell? ⟨b, o + k * 6, none⟩ = some (.int .i64 op.what) ∧ w'.cell? ⟨b, o + k * 6 + 1, none⟩ = some (.string op.nm) ∧ w'.cell? ⟨b, o + k * 6 + 2, none⟩ = some (.string op.to_) ∧
      w'.cell? ⟨b, o + k * 6 + 3, none⟩ = some (.slice op.ba op.bs.length op.bc) ∧ w'.cell? ⟨b, o + k * 6 + 4, none⟩ = some (.int .i64 op.n) ∧ w'.cell? ⟨b, o + k * 6 + 5, none⟩ = some (.slice op.ka op.ks.length op.kc)) ∧ OpIn w' B op := by
  have h' := h.below hb (Nat.le_refl _)
  obtain ⟨b, o, e, _, hc⟩ := h'.at_ (by omega)
  have hl := h.length
  have hop : l[k]? = some (l[k]'(by omega)) := List.getElem?_eq_getElem (by omega)
  exact ⟨b, o, _, e, hop, (hc k _ hop).1, (hc k _ hop).2⟩

set_option maxRecDepth 100000 in
set_option maxHeartbeats 3200000 in
theorem diskStill_walk (n : Nat) (hn : n ≤ 255) (a : Option Addr) (len cap : Nat) (l : List OpV) (w0 : World) (ho : OpsIn w0 w0.heap.size a len cap l) (hlz : len ≤ 140737488351232) :
    Calls Try.prog 7 #[.int .u8 (n : Int), .slice a len cap] w0 fun e w' => e = .returned (.bool true) ∧ Below w0.heap.size w0 w' := by
  have HD := Lib.hid (head_any w0)
  have hle := ho.le
  have HO := Lib.hid ho
  clear ho
  have hwn : IntKind.i64.wrap (n : Int) = (n : Int) := by rw [IntKind.wrap_i64]; omega
  go_enter Try.func7, Try.ntmps7
  go_wp2_with fail
  refine HD.out.mono ?_
  rintro e w1 ⟨rfl, hb1⟩
  have N1 := Lib.hid (DK.new 900 (by decide) w1)
  have HB1 := Lib.hid hb1
  clear hb1 HD
  go_wp2_with fail
  refine N1.out.mono ?_
  rintro e w2 ⟨dp, O, rfl, hk, hb2, hO2⟩
  have K := Lib.hid hk
  have HB2 := Lib.hid (HB1.out.trans (hb2.mono HB1.out.size))
  clear hk hb2 hO2 N1
  have GR := Lib.hid (great_any a len cap l w2 ((HO.out.below HB2.out (Nat.le_refl _)) |> fun h => ⟨h.length, h.le, h.max, fun hp => by obtain ⟨b, o, e, hlt, hc⟩ := h.at_ hp; exact ⟨b, o, e, Nat.lt_of_lt_of_le hlt HB2.out.size, fun k op hop => ⟨(hc k op hop).1, (hc k op hop).2.below (Below.refl w2.heap.size w2) HB2.out.size⟩⟩⟩) hlz)
  go_wp2_with fail
  refine GR.out.mono ?_
  rintro e w3 ⟨g, rfl, hg, hb3⟩
  have K3 := Lib.hid (K.out.on hb3)
  have HB3 := Lib.hid (HB2.out.trans (hb3.mono HB2.out.size))
  have HG := Lib.hid hg
  clear hb3 hg GR
  cases g
  · have h300 := HG.out rfl
    have C := Lib.hid (K3.out.fuse (n : Int) (by omega))
    clear HG
    go_wp2_with fail
    refine C.out.mono ?_
    rintro e w4 ⟨rfl, hmv⟩
    obtain ⟨O4, k4, b4, f4⟩ := hmv.far
    have K4 := Lib.hid k4
    clear hmv k4 b4 f4 C
    go_wp2_with fail
    go_loopw [7, 8] (fun m i wr => ∃ (k M : Nat) (t : St) (O' : Nat → Prop), k ≤ len ∧ i = .int .i64 (k : Int) ∧ m = .int .i64 (M : Int) ∧ M ≤ k ∧ DK w1 wr dp t O' ∧ t.fuse = ((n - M : Nat) : Int)) (fun _ i _ => len - (intOf i).toNat)
    case atStart => exact ⟨0, 0, _, O4, Nat.zero_le _, rfl, rfl, Nat.le_refl _, K4.out, by show max (n : Int) (-1) = _; omega⟩
    case round =>
      obtain ⟨k, M, t, O', hk, rfl, rfl, hM, hkd, hfu⟩ := hrel
      have HB := HB1.out.trans (hkd.below.mono HB1.out.size)
      by_cases hlt : k < len
      · obtain ⟨b, o, op, rfl, hop, ⟨e0, e1, e2, e3, e4, e5⟩, hin⟩ := HO.out.at_later HB hlt
        have hba : Below wr.heap.size wr (wr.alloc (.cells #[.int .i64 op.what, .string op.nm, .string op.to_, .slice op.ba op.bs.length op.bc, .int .i64 op.n, .slice op.ka op.ks.length op.kc] 34)) := (Below.refl _ _).alloc (Nat.le_refl _) _
        have hka := hkd.on hba
        have DO := Lib.hid (do_any hka op (hin.below (hba.mono HB.size) (Nat.le_refl _)) HB1.out.size)
        have hw1 : IntKind.i64.wrap ((M : Int) + 1) = ((M + 1 : Nat) : Int) := by rw [IntKind.wrap_i64]; omega
        have HR := Lib.hid (And.intro hkd hfu)
        clear hkd hfu HB hin hop
        by_cases h7 : 7 ≤ op.what ∧ op.what ≤ 9
        · obtain ⟨h7a, h7b⟩ := h7
          have HKA := Lib.hid hka
          clear hka hba DO
          go_wp2
          go_roundw
          case rel => exact ⟨k + 1, M, t, O', by omega, by go_num, rfl, by omega, HKA.out, HR.out.2⟩
          case measure => simp [intOf]; omega
        · have DF := do_fuse t op h7
          have h7n : 7 ≤ op.what → decide (op.what ≤ 9) = false := fun h => by simp; omega
          have hfz : t.fuse = ((n - M : Nat) : Int) := HR.out.2
          have HF := Lib.hid (show (t.do_ op).2.fuse = ((n - (M + 1) : Nat) : Int) by rw [DF.2]; unfold burn; split <;> omega)
          unfold opVal Done at DO
          by_cases hMn : n ≤ M
          · have h42 : (t.do_ op).1 = 42 := DF.1.2 (by omega)
            rw [h42] at DO
            have d1 : decide ((n : Int) ≤ (M : Int)) = true := by simp; omega
            clear hka hba DF hfz h42
            by_cases h7a : 7 ≤ op.what
            · have h7b : decide (op.what ≤ 9) = false := h7n h7a
              clear h7n h7
              go_wp2_with fail
              refine DO.out.mono ?_
              rintro e w5 ⟨rfl, hmv⟩
              obtain ⟨O5, k5, b5, f5⟩ := hmv.far
              have K5 := Lib.hid k5
              clear hmv k5 b5 f5 DO
              go_wp2
              go_roundw
              case rel => exact ⟨k + 1, M + 1, _, O5, by omega, by go_num, by go_num, by omega, K5.out, HF.out⟩
              case measure => simp [intOf]; omega
            · clear h7n h7
              go_wp2_with fail
              refine DO.out.mono ?_
              rintro e w5 ⟨rfl, hmv⟩
              obtain ⟨O5, k5, b5, f5⟩ := hmv.far
              have K5 := Lib.hid k5
              clear hmv k5 b5 f5 DO
              go_wp2
              go_roundw
              case rel => exact ⟨k + 1, M + 1, _, O5, by omega, by go_num, by go_num, by omega, K5.out, HF.out⟩
              case measure => simp [intOf]; omega
          · have h42 : ¬ (t.do_ op).1 = 42 := fun h => by have := DF.1.1 h; omega
            generalize hr : (t.do_ op).1 = r at DO h42
            have d1 : decide ((n : Int) ≤ (M : Int)) = false := by simp; omega
            have d2 : (r == 42) = false := by simpa using h42
            clear hka hba DF hfz h42 hr
            by_cases h7a : 7 ≤ op.what
            · have h7b : decide (op.what ≤ 9) = false := h7n h7a
              clear h7n h7
              go_wp2_with fail
              refine DO.out.mono ?_
              rintro e w5 ⟨rfl, hmv⟩
              obtain ⟨O5, k5, b5, f5⟩ := hmv.far
              have K5 := Lib.hid k5
              clear hmv k5 b5 f5 DO
              go_wp2
              go_roundw
              case rel => exact ⟨k + 1, M + 1, _, O5, by omega, by go_num, by go_num, by omega, K5.out, HF.out⟩
              case measure => simp [intOf]; omega
            · clear h7n h7
              go_wp2_with fail
              refine DO.out.mono ?_
              rintro e w5 ⟨rfl, hmv⟩
              obtain ⟨O5, k5, b5, f5⟩ := hmv.far
              have K5 := Lib.hid k5
              clear hmv k5 b5 f5 DO
              go_wp2
              go_roundw
              case rel => exact ⟨k + 1, M + 1, _, O5, by omega, by go_num, by go_num, by omega, K5.out, HF.out⟩
              case measure => simp [intOf]; omega
      · have CC := Lib.hid (hkd.crash [] none 0 0 ⟨Nat.le_refl _, by simp [maxLen], fun h => absurd h (by decide)⟩ rfl (fun h => absurd h (by decide)))
        clear hkd hfu HB
        go_wp2_with fail
        refine CC.out.mono ?_
        rintro e w5 ⟨rfl, hmv⟩
        obtain ⟨O5, k5, b5, f5⟩ := hmv.far
        have hlv := (write_live (t.crash []) (⟨#[97]⟩ : ByteArray).data.toList [] (show ((-1 : Int) ≠ 0) by decide)).1
        have CW := Lib.hid (k5.write ⟨#[97]⟩ (by decide) none 0 0 [] Sl.nil_ (by decide) (fun h => absurd h (by decide)))
        generalize ((t.crash []).write (⟨#[97]⟩ : ByteArray).data.toList []).1 = r at hlv CW
        have d2 : (r != 42) = true := by simpa using hlv
        clear hmv k5 b5 f5 CC hlv
        go_wp2_with fail
        refine CW.out.mono ?_
        rintro e w6 ⟨rfl, hmv⟩
        obtain ⟨O6, k6, _, _⟩ := hmv.far
        have HE := Lib.hid (HB1.out.trans (k6.below.mono HB1.out.size))
        clear hmv k6 CW
        go_wp2
        go_ret
        exact ⟨rfl, HE.out⟩
  · go_wp2
    go_ret
    exact ⟨rfl, HB3.out⟩
end Go.Proofs.Yticjnjonhdcciaa
