/- The walk of DiskBegins. -/
import Derived.Test.YticjnjonhdcciaaDkS
import Derived.Test.YticjnjonhdcciaaDkR
import Derived.Test.YticjnjonhdcciaaDiskStillW
import Derived.Test.YticjnjonhdcciaaDiskOwnW
namespace Go.Proofs.Yticjnjonhdcciaa
open Go.RowKit Go.Sort
open Go.Maps
attribute [local go_sem] Oper.semAt_some

theorem info_int : (Try.prog.info? 3).map (fun i => (i.zero, i.size, i.bytes)) = some (some (.int .i64 0), 1, 8) := by kernel_rfl
def flOf (t : St) (s : List UInt8) : Fl := (fat t.D s).getD Fl.zero
def wasC (t : St) (s : List UInt8) : Value := .string (strOf (flOf t s).bs)
def lastC (t : St) (s : List UInt8) : Value := .int .i64 ((flOf t s).l : Int)
theorem own_apart {w : World} {b b' : Nat} {e e' : TypeId} {v v' : Value} {n n' : Nat} {xs xs' : List Value} (h : w.ownsRow b e 1 v n xs) (h' : w.ownsRow b' e' 1 v' n' xs') (hne : e ≠ e') : v'.ownBlock = none ∨ v'.ownBlock ≠ v.ownBlock := by
  rcases h'.2 with ⟨rfl, _⟩ | ⟨g, cap, cur, rfl, _, hh, _⟩
  · exact .inl rfl
  · right
    intro e1
    rcases h.2 with ⟨rfl, _⟩ | ⟨g', cap', cur', rfl, _, hh', _⟩
    · cases e1
    · have : g = g' := by simpa [Value.ownBlock] using e1
      subst this
      rw [hh] at hh'
      injection hh' with hh'
      injection hh' with h1 h2
      exact hne h2.symm
theorem own_below {w w' : World} {b : Nat} {e : TypeId} {v : Value} {n : Nat} {xs : List Value} (h : w.ownsRow b e 1 v n xs) (hb : Below w.heap.size w w') : w'.ownsRow b e 1 v n xs :=
  World.ownsRow.kept h (grown_of_below hb none) (by cases hv : v.ownBlock <;> simp)
theorem own_but {O : Nat → Prop} {w w' : World} {b : Nat} {e : TypeId} {v : Value} {n : Nat} {xs : List Value} (h : w.ownsRow b e 1 v n xs) (hb : But O w w') (hO : ∀ k, b ≤ k → ¬ O k) : w'.ownsRow b e 1 v n xs := by
  refine ⟨h.1, ?_⟩
  rcases h.2 with h1 | ⟨g, cap, cur, hv, h1, h2, h3⟩
  · exact .inl h1
  · exact .inr ⟨g, cap, cur, hv, h1, (hb.block g (lt_of_heap h2) (hO g h1)).trans h2, h3⟩
theorem own_cell {w : World} {b : Nat} {e : TypeId} {v : Value} {n : Nat} {xs : List Value} (h : w.ownsRow b e 1 v n xs) {k : Nat} {u : Value} (hk : xs[k]? = some u) : ∃ g c, v = .slice (some ⟨g, 0, none⟩) n c ∧ k < n ∧ n ≤ c ∧ c ≤ maxLen ∧ w.cell? ⟨g, k, none⟩ = some u := by
  have hl := h.1
  have hlt := (List.getElem?_eq_some_iff.1 hk).1
  rcases h.2 with ⟨_, rfl⟩ | ⟨g, cap, cur, rfl, _, hh, h1, h2, _⟩
  · omega
  · exact ⟨g, cap, rfl, by omega, h1, h2, by rw [h.cellAt k (by omega), hk]⟩
theorem extract_str (bs : List Nat) (m : Nat) : (strOf bs).extract 0 m = strOf (bs.take m) := by
  apply ByteArray.ext
  simp [strOf, ByteArray.data_extract, List.map_take]
theorem ba_data (s : List UInt8) : (⟨s.toArray⟩ : ByteArray).data.toList = s := by simp
/-- What the second loop keeps. -/
def BegR (wB : World) (t : St) (Z : Nat) (was last i : Value) (wr : World) : Prop :=
  ∃ k : Nat, k ≤ Z ∧ i = .int .i64 (k : Int) ∧ wr.ownsRow wB.heap.size 9 1 was k (((strKeys t.D).take k).map (wasC t)) ∧ wr.ownsRow wB.heap.size 3 1 last k (((strKeys t.D).take k).map (lastC t)) ∧ Below wB.heap.size wB wr
theorem take_map_snoc {β : Type} (f : List UInt8 → β) {l : List (List UInt8)} {k : Nat} {s : List UInt8} (h : l[k]? = some s) : (l.take (k + 1)).map f = (l.take k).map f ++ [f s] := by
  have hlt := (List.getElem?_eq_some_iff.1 h).1
  rw [List.take_succ_eq_append_getElem hlt, List.map_append]
  have : l[k] = s := (List.getElem?_eq_some_iff.1 h).2
  rw [this]
  rfl
set_option linter.unusedSimpArgs false in
set_option maxRecDepth 100000 in
set_option maxHeartbeats 40000000 in
theorem diskBegins_walk (room : Int) (a : Option Addr) (len cap : Nat) (l : List OpV) (ka : Option Addr) (kn kc : Nat) (ks : List Int) (w0 : World) (ho : OpsIn w0 w0.heap.size a len cap l) (hlz : len ≤ 140737488351232)
    (hkr : Row w0 w0.heap.size ka kn kc 1 (intsC ks)) (hkl : ks.length = kn) :
    Calls Try.prog 5 #[.int .i64 room, .slice a len cap, .slice ka kn kc] w0 fun e w' => e = .returned (.bool true) ∧ Below w0.heap.size w0 w' := by
  have HD := Lib.hid (head_any w0)
  have hle := ho.le
  have hkm := hkr.max
  have hkle := hkr.le
  unfold maxLen at hkm
  have HO := Lib.hid (And.intro ho hkr)
  obtain ⟨i9, hi9, hz90, hz91, hz92⟩ := info_parts info_str
  obtain ⟨i3, hi3, hz30, hz31, hz32⟩ := info_parts info_int
  clear ho hkr
  go_enter Try.func5, Try.ntmps5
  go_wp2_with fail
  refine HD.out.mono ?_
  rintro e w1 ⟨rfl, hb1⟩
  have HB1 := Lib.hid hb1
  clear hb1 HD
  by_cases hroom : 0 ≤ room ∧ room ≤ 1048576
  · obtain ⟨r, rfl⟩ := Int.eq_ofNat_of_zero_le hroom.1
    have N1 := Lib.hid (DK.new r (by omega) w1)
    clear hroom
    go_wp2_with fail
    refine N1.out.mono ?_
    rintro e w2 ⟨dp, O, rfl, hk, hb2, hO2⟩
    have K := Lib.hid hk
    have HB2 := Lib.hid (HB1.out.trans (hb2.mono HB1.out.size))
    clear hk hb2 hO2 N1
    have GR := Lib.hid (great_any a len cap l w2 ((HO.out.1.below HB2.out (Nat.le_refl _)) |> fun h => ⟨h.length, h.le, h.max, fun hp => by obtain ⟨b, o, e, hlt, hc⟩ := h.at_ hp; exact ⟨b, o, e, Nat.lt_of_lt_of_le hlt HB2.out.size, fun k op hop => ⟨(hc k op hop).1, (hc k op hop).2.below (Below.refl w2.heap.size w2) HB2.out.size⟩⟩⟩) hlz)
    go_wp2_with fail
    refine GR.out.mono ?_
    rintro e w3 ⟨g, rfl, hg, hb3⟩
    have K3 := Lib.hid (K.out.on hb3)
    have HB3 := Lib.hid (HB2.out.trans (hb3.mono HB2.out.size))
    have HG := Lib.hid hg
    clear hb3 hg GR
    cases g
    · have h300 := HG.out rfl
      clear HG
      by_cases h9 : kn ≤ 900
      · go_wp2_with fail
        go_loopw [9] (fun i wr => ∃ (k : Nat) (t : St) (O' : Nat → Prop), k ≤ len ∧ i = .int .i64 (k : Int) ∧ DK w1 wr dp t O') (fun i _ => len - (intOf i).toNat)
        case atStart => exact ⟨0, _, O, Nat.zero_le _, rfl, K3.out⟩
        case round =>
          obtain ⟨k, t, O', hk, rfl, hkd⟩ := hrel
          have HB := HB1.out.trans (hkd.below.mono HB1.out.size)
          by_cases hlt : k < len
          · obtain ⟨b, o, op, rfl, hop, ⟨e0, e1, e2, e3, e4, e5⟩, hin⟩ := HO.out.1.at_later HB hlt
            have DO := Lib.hid (do_any hkd op hin HB1.out.size)
            unfold opVal Done at DO
            clear hkd hop hin HB
            go_wp2_with fail
            refine DO.out.mono ?_
            rintro e w5 ⟨rfl, hmv⟩
            obtain ⟨O5, k5, b5, f5⟩ := hmv.far
            have K5 := Lib.hid k5
            clear hmv k5 b5 f5 DO e0 e1 e2 e3 e4 e5
            go_wp2
            go_roundw
            case rel => exact ⟨k + 1, _, O5, by omega, by go_num, K5.out⟩
            case measure => simp [intOf]; omega
          · have L1 := Lib.hid hkd.list
            have KW := Lib.hid hkd
            have HBW := Lib.hid HB
            clear hkd HB K K3 HB3
            go_wp2_with fail
            refine L1.out.mono ?_
            rintro e wB hN
            obtain ⟨g1, c1, rfl, hr1, hg1, hbb⟩ := hN.out
            have KB := Lib.hid (KW.out.on hbb)
            have hnO : ¬ O' g1 := fun ho => by have := KW.out.lt _ ho; omega
            have hz := KB.out.good.size_
            rw [← size_names] at hz
            have hcm := hr1.max
            have hcl := hr1.le
            unfold maxLen at hcm
            have R1 := Lib.hid (And.intro hr1 hnO)
            have HBB := Lib.hid (HBW.out.trans (hbb.mono HBW.out.size))
            have hgl : 0 < (strKeys t.D).length → g1 < wB.heap.size := fun hp => by
              obtain ⟨b', o', e', hlt', _⟩ := hr1.at_ hp
              injection e' with e'
              injection e' with e1' e2'
              subst e1'
              exact hlt'
            have HGL := Lib.hid hgl
            obtain ⟨Z, hZ⟩ : ∃ Z, Z = (strKeys t.D).length := ⟨_, rfl⟩
            rw [← hZ] at hz hcl ⊢
            have HZ := Lib.hid hZ
            clear hN hr1 hg1 hbb hnO L1 hgl hZ
            go_wp2_with fail
            go_loopw [11, 12, 13] (fun was last i wr => BegR wB t Z was last i wr) (fun _ _ i _ => Z - (intOf i).toNat)
            case atStart => exact ⟨0, Nat.zero_le _, rfl, World.ownsRow_nil wB wB.heap.size _ 1, World.ownsRow_nil wB wB.heap.size _ 1, Below.refl _ _⟩
            case round =>
              obtain ⟨j, hj, rfl, hw, hl, hnx⟩ := hrel
              by_cases hjl : j < Z
              · obtain ⟨s, hs⟩ : ∃ s, (strKeys t.D)[j]? = some s := ⟨_, List.getElem?_eq_getElem (by rw [← HZ.out]; exact hjl)⟩
                obtain ⟨b', o', e', _, hcn⟩ := R1.out.1.at_ (by rw [← HZ.out]; omega)
                have hb'1 : b' = g1 := by injection e' with e'; injection e' with h1 h2; exact h1.symm
                have hb'2 : o' = 0 := by injection e' with e'; injection e' with h1 h2; exact h2.symm
                subst hb'1 hb'2
                have n0 : wB.cell? ⟨b', j, none⟩ = some (.string ⟨s.toArray⟩) := by
                  have := hcn j (by rw [← HZ.out]; omega)
                  rw [Nat.zero_add] at this
                  rw [this]
                  simp only [strC, List.getD_eq_getElem?_getD, hs]
                  rfl
                have hgB := HGL.out (by rw [← HZ.out]; omega)
                have n1 := (hnx.cell (p := ⟨b', j, none⟩) hgB).trans n0
                have KR := Lib.hid (KB.out.on hnx)
                have hsz : s.length ≤ 16 := by
                  obtain ⟨f9, hf9⟩ := Option.isSome_iff_exists.1 ((names_mem KB.out.good s).1 (List.mem_of_getElem? hs))
                  have := (KB.out.good.at_ hf9).1
                  unfold nmOk at this
                  simp at this
                  omega
                have hss : (⟨s.toArray⟩ : ByteArray).size ≤ maxLen := by show s.toArray.size ≤ _; unfold maxLen; simp; omega
                have RD := Lib.hid (KR.out.read ⟨s.toArray⟩ hss)
                have HF := Lib.hid (fat_byte KR.out.good (⟨s.toArray⟩ : ByteArray).data.toList)
                rw [ba_data] at RD HF
                have HW := Lib.hid (And.intro hw (And.intro hl hnx))
                have HS := Lib.hid (And.intro hs n0)
                clear hw hl hnx hs n0 hcn
                go_wp2_with fail
                refine RD.out.mono ?_
                rintro e w6 hN
                obtain ⟨x, xc, rfl, hxs, _, hb6⟩ := NewBytes.out KR.out hN HF.out
                have kall : (convert 31 9 (.slice x ((fat t.D s).getD Fl.zero).bs.length xc)).run Try.prog w6 = .ok (.string (strOf ((fat t.D s).getD Fl.zero).bs)) w6 := run_str hxs 31 5 9 Try.underlying31 Try.underlying5 Try.underlying9
                have hB6 : Below wB.heap.size wB w6 := HW.out.2.2.trans (hb6.mono HW.out.2.2.size)
                have hw6 := own_below HW.out.1 hb6
                have hl6 := own_below HW.out.2.1 hb6
                have HX := Lib.hid (And.intro hB6 (And.intro hw6 hl6))
                generalize hfb : (fat t.D s).getD Fl.zero = f0 at *
                have HFB := Lib.hid hfb
                clear hN hxs hb6 hB6 hw6 hl6 RD HF HW n1 hfb
                go_wp2_with (first
                  | (at_builtin; refine wpList_append_own_at _ rfl _ _ 39 rfl wB.heap.size 9 i9 (.string ⟨#[]⟩) 1 16 Try.underlying39 hi9 hz90 hz91 hz92 rfl (by decide) _ j _ rfl (HX.out.2.1.alloc (.cells #[.string (strOf f0.bs)] 9)) ⟨w6.heap.size, 0, none⟩ 1 1 [.string (strOf f0.bs)] rfl rfl (cell_one_new _ _ _) (by simp [Value.oneCell']) (by unfold maxLen; omega) (by omega) (by have := HX.out.1.size; simp; omega) ?_; intro v7 w7 hown7 hg7 hnil7 hat7; have hB7 : Below wB.heap.size wB w7 := (HX.out.1.alloc HX.out.1.size _).grown hg7 (by have := HX.out.1.size; simp; omega) (fun q hq => (HX.out.2.1.lt q hq).1); have hl7 := World.ownsRow.kept (HX.out.2.2.alloc (.cells #[.string (strOf f0.bs)] 9)) hg7 (own_apart HX.out.2.1 HX.out.2.2 (by decide)); have n7 := (hB7.cell (p := ⟨b', j, none⟩) hgB).trans HS.out.2; have HX7 := Lib.hid (And.intro hB7 (And.intro hown7 hl7)); clear hB7 hown7 hl7 hg7 hnil7 hat7)
                  | fail)
                have SY := Lib.hid ((KB.out.on HX7.out.1).synced ⟨s.toArray⟩ hss)
                rw [ba_data, HFB.out] at SY
                refine SY.out.mono ?_
                rintro e w7' ⟨rfl, rfl⟩
                go_wp2_with (first
                  | (at_builtin; refine wpList_append_own_at _ rfl _ _ 32 rfl wB.heap.size 3 i3 (.int .i64 0) 1 8 Try.underlying32 hi3 hz30 hz31 hz32 rfl (by decide) _ j _ rfl (HX7.out.2.2.alloc (.cells #[.int .i64 (f0.l : Int)] 3)) ⟨w7.heap.size, 0, none⟩ 1 1 [.int .i64 (f0.l : Int)] rfl rfl (cell_one_new _ _ _) (by simp [Value.oneCell']) (by unfold maxLen; omega) (by omega) (by have := HX7.out.1.size; simp; omega) ?_; intro v8 w8 hown8 hg8 hnil8 hat8; have hB8 : Below wB.heap.size wB w8 := (HX7.out.1.alloc HX7.out.1.size _).grown hg8 (by have := HX7.out.1.size; simp; omega) (fun q hq => (HX7.out.2.2.lt q hq).1); have hw8 := World.ownsRow.kept (HX7.out.2.1.alloc (.cells #[.int .i64 (f0.l : Int)] 3)) hg8 (own_apart HX7.out.2.2 HX7.out.2.1 (by decide)); have HX8 := Lib.hid (And.intro hB8 (And.intro hown8 hw8)); clear hB8 hown8 hw8 hg8 hnil8 hat8)
                  | fail)
                go_roundw
                case rel =>
                  refine ⟨j + 1, by omega, by go_num, ?_, ?_, HX8.out.1⟩
                  · rw [take_map_snoc _ HS.out.1, show wasC t s = .string (strOf f0.bs) from by unfold wasC flOf; rw [HFB.out]]
                    exact HX8.out.2.2
                  · rw [take_map_snoc _ HS.out.1, show lastC t s = .int .i64 (f0.l : Int) from by unfold lastC flOf; rw [HFB.out]]
                    exact HX8.out.2.1
                case measure => simp [intOf]; omega
              · have hjZ : Z = j := by omega
                subst hjZ
                have hBx := HBB.out.trans (hnx.mono HBB.out.size)
                have CC := Lib.hid ((KB.out.on hnx).crash ks ka kn kc ((HO.out.2.below hBx (Nat.le_refl _)).more hBx.size) hkl (fun hp k' o' e' ho' => by
                  obtain ⟨b', o2, e2, hlt', _⟩ := HO.out.2.at_ hp
                  rw [e'] at e2
                  injection e2 with e2
                  injection e2 with e3 e4
                  have := KB.out.base _ ho'
                  have := HB1.out.size
                  omega))
                have HW := Lib.hid (And.intro hw (And.intro hl hnx))
                clear hw hl hnx hBx
                go_wp2_with fail
                refine CC.out.mono ?_
                rintro e w5 ⟨rfl, hmv⟩
                obtain ⟨O5, k5, b5, f5⟩ := hmv.far
                have hoO : ∀ k, wB.heap.size ≤ k → ¬ O' k := fun k hk ho => by have := KB.out.lt _ ho; omega
                have ow5 := own_but HW.out.1 b5 hoO
                have ol5 := own_but HW.out.2.1 b5 hoO
                have r5 := ((R1.out.1.below HW.out.2.2 (Nat.le_refl _)).more HW.out.2.2.size).but b5 (fun _ k o e => by
                  injection e with e
                  injection e with e1 e2
                  rw [← e1]
                  exact R1.out.2)
                have L2 := Lib.hid k5.list
                rw [show strKeys (t.crash ks).D = strKeys t.D from names_crD ks _ t.D] at L2
                have H5 := Lib.hid (And.intro ow5 (And.intro ol5 (And.intro r5 k5)))
                clear hmv k5 b5 f5 hoO ow5 ol5 r5 CC
                go_wp2_with fail
                refine L2.out.mono ?_
                rintro e w6 hN
                obtain ⟨g3, c3, rfl, hr3, hg3, hb6⟩ := hN.out
                have SM := Lib.hid (sameStr_any (strKeys t.D) _ _ c3 c1 w6 hr3 ((H5.out.2.2.1.below hb6 (Nat.le_refl _)).more hb6.size))
                rw [← HZ.out] at SM ⊢
                have HB6 := Lib.hid hb6
                clear hN hr3 hg3 hb6 L2
                go_wp2_with fail
                refine SM.out.mono ?_
                rintro e w7 ⟨rfl, hb7⟩
                have hB57 := HB6.out.trans (hb7.mono HB6.out.size)
                have OW7 := Lib.hid (And.intro (own_below H5.out.1 hB57) (And.intro (own_below H5.out.2.1 hB57) ((H5.out.2.2.1.below hB57 (Nat.le_refl _)).more hB57.size)))
                have KC := Lib.hid (H5.out.2.2.2.on hB57)
                clear hb7 hB57 SM H5 HB6 HW
                go_wp2_with fail
                go_loopw [16] (fun i wr => ∃ k : Nat, k ≤ Z ∧ i = .int .i64 (k : Int) ∧ Below w7.heap.size w7 wr) (fun i _ => Z - (intOf i).toNat)
                case atStart => exact ⟨0, Nat.zero_le _, rfl, Below.refl _ _⟩
                case round =>
                  obtain ⟨m, hm, rfl, hnm⟩ := hrel
                  by_cases hml : m < Z
                  · obtain ⟨s, hs⟩ : ∃ s, (strKeys t.D)[m]? = some s := ⟨_, List.getElem?_eq_getElem (by rw [← HZ.out]; exact hml)⟩
                    obtain ⟨f0, hf0⟩ := Option.isSome_iff_exists.1 ((names_mem KB.out.good s).1 (List.mem_of_getElem? hs))
                    have hfc : fat (t.crash ks).D s = some (crF ks m f0) := by
                      have h9 := fat_crD ks (size t.D) KB.out.good hs hf0
                      rw [if_pos (by have := size_names t.D; have := HZ.out; omega)] at h9
                      exact h9
                    have hat := KB.out.good.at_ hf0
                    have hll := hat.2.1
                    have hsz : s.length ≤ 16 := by
                      have := hat.1
                      unfold nmOk at this
                      simp at this
                      omega
                    have hss : (⟨s.toArray⟩ : ByteArray).size ≤ maxLen := by show s.toArray.size ≤ _; unfold maxLen; simp; omega
                    obtain ⟨b', o', e', hlt', hcn⟩ := OW7.out.2.2.at_ (by rw [← HZ.out]; omega)
                    have hb'1 : b' = g1 := by injection e' with e'; injection e' with h1 h2; exact h1.symm
                    have hb'2 : o' = 0 := by injection e' with e'; injection e' with h1 h2; exact h2.symm
                    subst hb'1 hb'2
                    have n0 : w7.cell? ⟨b', m, none⟩ = some (.string ⟨s.toArray⟩) := by
                      have := hcn m (by rw [← HZ.out]; omega)
                      rw [Nat.zero_add] at this
                      rw [this]
                      simp only [strC, List.getD_eq_getElem?_getD, hs]
                      rfl
                    have n1 := (hnm.cell (p := ⟨b', m, none⟩) hlt').trans n0
                    obtain ⟨gw, cw, rfl, _, hw1, hw2, cw0⟩ := own_cell (own_below OW7.out.1 hnm) (k := m) (u := .string (strOf f0.bs)) (by rw [List.getElem?_map, List.getElem?_take_of_lt hml, hs]; simp [wasC, flOf, hf0])
                    obtain ⟨gl, cl, rfl, _, hl1, hl2, cl0⟩ := own_cell (own_below OW7.out.2.1 hnm) (k := m) (u := .int .i64 (f0.l : Int)) (by rw [List.getElem?_map, List.getElem?_take_of_lt hml, hs]; simp [lastC, flOf, hf0])
                    have KR := Lib.hid (KC.out.on hnm)
                    have RD := fun (x : World) (hx : Below wr.heap.size wr x) => (KR.out.on hx).read ⟨s.toArray⟩ hss
                    have HF := fat_byte KR.out.good (⟨s.toArray⟩ : ByteArray).data.toList
                    have SY0 := fun (x : World) (hx : Below wr.heap.size wr x) => (KR.out.on hx).synced ⟨s.toArray⟩ hss
                    rw [ba_data, hfc] at HF
                    simp only [ba_data, hfc] at SY0 RD
                    change ∀ x, Below wr.heap.size wr x → Calls _ _ _ x (NewBytes x (f0.bs.take (crM ks m f0)) true) at RD
                    change ∀ c ∈ f0.bs.take (crM ks m f0), c < 256 at HF
                    change ∀ x, Below wr.heap.size wr x → Calls _ _ _ x (fun e w' => e = .returned (.int .i64 ((crM ks m f0 : Nat) : Int)) ∧ x = w') at SY0
                    have hcm : Hid (crM ks m f0 = f0.l + (keptV ks m ((f0.bs.length : Int) - (f0.l : Int))).toNat) := rfl
                    have hcl9 := crM_le ks m hll
                    generalize crM ks m f0 = cm at *
                    have htl : (f0.bs.take cm).length = cm := by rw [List.length_take]; omega
                    have hlen : f0.bs.length ≤ 1048576 := by have := hat.2.2.2; have := KB.out.good.tot_; have := KB.out.good.room_; omega
                    have kext : ∀ x, (Instr.slice 9 (.string (strOf f0.bs)) none (some (.int .i64 (cm : Int))) none).run Try.prog x = .ok (.string (strOf (f0.bs.take cm))) x := fun x => by
                      rw [run_slice_string_h x 9 (strOf f0.bs) Try.underlying9 .i64 (cm : Int) (by omega) (by rw [strOf_size]; omega), Int.toNat_natCast, extract_str]
                    have hsz0 := strOf_size f0.bs
                    have HN9 := Lib.hid (And.intro hnm n1)
                    have RD := Lib.hid RD
                    have HF := Lib.hid HF
                    have SY0 := Lib.hid SY0
                    have w1 : IntKind.i64.wrap ((f0.bs.length : Int) - (f0.l : Int)) = (f0.bs.length : Int) - (f0.l : Int) := by rw [IntKind.wrap_i64]; omega
                    generalize hus : f0.bs.take cm = us at *
                    generalize hnb : f0.bs.length = nb at *
                    generalize hlb : f0.l = l0 at *
                    generalize hsb : strOf f0.bs = sb at *
                    clear hs hf0 hfc hat hcn n0 hus hnb hlb hsb
                    by_cases hmk : m < kn
                    · obtain ⟨kb, ko, rfl, hkb, hkc⟩ := HO.out.2.at_ (by omega)
                      have hB9 : Below w0.heap.size w0 wr := HB1.out.trans (KR.out.below.mono HB1.out.size)
                      have kc0 := (hB9.cell (p := ⟨kb, ko + m, none⟩) hkb).trans (by have := hkc m (by omega); exact this)
                      simp only [intsC] at kc0
                      have hk9 : Hid (keptV ks m ((nb : Int) - (l0 : Int)) = min (max (ks.getD m 0) 0) ((nb : Int) - (l0 : Int))) := by show _ = _; unfold keptV; rw [if_pos (by omega)]
                      have m1 := fun (x : World) => max2_any (ks.getD m 0) 0 x
                      have m2 := fun (x : World) => min2i_any (max (ks.getD m 0) 0) ((nb : Int) - (l0 : Int)) x
                      generalize ks.getD m 0 = z at *
                      have w2 : IntKind.i64.wrap ((l0 : Int) + min (max z 0) ((nb : Int) - (l0 : Int))) = (cm : Int) := by have h1 := hcm.out; rw [hk9.out] at h1; rw [IntKind.wrap_i64]; omega
                      generalize hq : min (max z 0) ((nb : Int) - (l0 : Int)) = q at *
                      clear hkc hq hk9 hcm hB9
                      go_wp2_with fail
                      refine wp_region_held_drew (S := fun x => x.cell? ⟨kb, ko + m, none⟩ = some (.int .i64 z) ∧ x.cell? ⟨gw, m, none⟩ = some (.string sb) ∧ x.cell? ⟨gl, m, none⟩ = some (.int .i64 (l0 : Int))) (by kernel_rfl) ⟨kc0, cw0, cl0⟩ (fun hHeld => ?_)
                      refine wpAnyH_take (i := 0) (v := ?_) rfl (by kernel_rfl) (by kernel_rfl) (by kernel_rfl) (fun _ _ _ h => h) (Or.inl ⟨by rfl, ?_⟩) (by assumption) ?_
                      rotate_left
                      · intro w hSw
                        (try dsimp only at hSw)
                        go_simp
                        all_goals with_reducible rfl
                      try simp only [Act.put, List.getElem_toArray, List.getElem_cons_succ, List.getElem_cons_zero, List.setIfInBounds_toArray, List.set_cons_zero, List.set_cons_succ]
                      refine wpAnyH_take (i := 1) (v := ?_) rfl (by kernel_rfl) (by kernel_rfl) (by kernel_rfl) (fun _ _ _ h => h) (Or.inl ⟨by rfl, ?_⟩) (by assumption) ?_
                      rotate_left
                      · intro w hSw
                        (try dsimp only at hSw)
                        go_simp
                        all_goals with_reducible rfl
                      try simp only [Act.put, List.getElem_toArray, List.getElem_cons_succ, List.getElem_cons_zero, List.setIfInBounds_toArray, List.set_cons_zero, List.set_cons_succ]
                      refine wpAnyH_take (i := 2) (v := ?_) rfl (by kernel_rfl) (by kernel_rfl) (by kernel_rfl) (fun _ _ _ h => h) (Or.inl ⟨by rfl, ?_⟩) (by assumption) ?_
                      rotate_left
                      · intro w hSw
                        (try dsimp only at hSw)
                        go_simp
                        all_goals with_reducible rfl
                      try simp only [Act.put, List.getElem_toArray, List.getElem_cons_succ, List.getElem_cons_zero, List.setIfInBounds_toArray, List.set_cons_zero, List.set_cons_succ]
                      refine wpAnyH_take (i := 3) (v := ?_) rfl (by kernel_rfl) (by kernel_rfl) (by kernel_rfl) (fun _ _ _ h => h) (Or.inl ⟨by rfl, ?_⟩) (by assumption) ?_
                      rotate_left
                      · intro w hSw
                        (try dsimp only at hSw)
                        go_simp
                        all_goals with_reducible rfl
                      try simp only [Act.put, List.getElem_toArray, List.getElem_cons_succ, List.getElem_cons_zero, List.setIfInBounds_toArray, List.set_cons_zero, List.set_cons_succ]
                      refine wpAnyH_take (i := 4) (v := ?_) rfl (by kernel_rfl) (by kernel_rfl) (by kernel_rfl) (fun _ _ _ h => h) (Or.inl ⟨by rfl, ?_⟩) (by assumption) ?_
                      rotate_left
                      · intro w hSw
                        (try dsimp only at hSw)
                        go_simp
                        all_goals with_reducible rfl
                      try simp only [Act.put, List.getElem_toArray, List.getElem_cons_succ, List.getElem_cons_zero, List.setIfInBounds_toArray, List.set_cons_zero, List.set_cons_succ]
                      refine wpAnyH_take (i := 5) (v := ?_) rfl (by kernel_rfl) (by kernel_rfl) (by kernel_rfl) (fun _ _ _ h => h) (Or.inl ⟨by rfl, ?_⟩) (by assumption) ?_
                      rotate_left
                      · intro w hSw
                        (try dsimp only at hSw)
                        go_simp
                        all_goals with_reducible rfl
                      try simp only [Act.put, List.getElem_toArray, List.getElem_cons_succ, List.getElem_cons_zero, List.setIfInBounds_toArray, List.set_cons_zero, List.set_cons_succ]
                      refine wpAnyH_take (i := 6) (v := ?_) rfl (by kernel_rfl) (by kernel_rfl) (by kernel_rfl) (fun _ _ _ h => h) (Or.inl ⟨by rfl, ?_⟩) (by assumption) ?_
                      rotate_left
                      · intro w hSw
                        (try dsimp only at hSw)
                        go_simp
                        all_goals with_reducible rfl
                      try simp only [Act.put, List.getElem_toArray, List.getElem_cons_succ, List.getElem_cons_zero, List.setIfInBounds_toArray, List.set_cons_zero, List.set_cons_succ]
                      refine wpAnyH_take (i := 7) (v := ?_) rfl (by kernel_rfl) (by kernel_rfl) (by kernel_rfl) (fun _ _ _ h => h) (Or.inl ⟨by rfl, ?_⟩) (by assumption) ?_
                      rotate_left
                      · intro w hSw
                        (try dsimp only at hSw)
                        go_simp
                        all_goals with_reducible rfl
                      try simp only [Act.put, List.getElem_toArray, List.getElem_cons_succ, List.getElem_cons_zero, List.setIfInBounds_toArray, List.set_cons_zero, List.set_cons_succ]
                      refine wpAnyH_take (i := 8) (v := ?_) rfl (by kernel_rfl) (by kernel_rfl) (by kernel_rfl) (fun _ _ _ h => h) (Or.inl ⟨by rfl, ?_⟩) (by assumption) ?_
                      rotate_left
                      · intro w hSw
                        (try dsimp only at hSw)
                        go_simp
                        all_goals with_reducible rfl
                      try simp only [Act.put, List.getElem_toArray, List.getElem_cons_succ, List.getElem_cons_zero, List.setIfInBounds_toArray, List.set_cons_zero, List.set_cons_succ]
                      refine wpAnyH_take (i := 9) (v := ?_) rfl (by kernel_rfl) (by kernel_rfl) (by kernel_rfl) (fun _ _ _ h => h) (Or.inl ⟨by rfl, ?_⟩) (by assumption) ?_
                      rotate_left
                      · intro w hSw
                        (try dsimp only at hSw)
                        go_simp
                        all_goals with_reducible rfl
                      try simp only [Act.put, List.getElem_toArray, List.getElem_cons_succ, List.getElem_cons_zero, List.setIfInBounds_toArray, List.set_cons_zero, List.set_cons_succ]
                      refine wpAnyH_take (i := 10) (v := ?_) rfl (by kernel_rfl) (by kernel_rfl) (by kernel_rfl) (fun _ _ _ h => h) (Or.inl ⟨by rfl, ?_⟩) (by assumption) ?_
                      rotate_left
                      · intro w hSw
                        (try dsimp only at hSw)
                        go_simp
                        all_goals with_reducible rfl
                      try simp only [Act.put, List.getElem_toArray, List.getElem_cons_succ, List.getElem_cons_zero, List.setIfInBounds_toArray, List.set_cons_zero, List.set_cons_succ]
                      refine wpAnyH_take (i := 11) (v := ?_) rfl (by kernel_rfl) (by kernel_rfl) (by kernel_rfl) (fun _ _ _ h => h) (Or.inl ⟨by rfl, ?_⟩) (by assumption) ?_
                      rotate_left
                      · intro w hSw
                        (try dsimp only at hSw)
                        go_simp
                        all_goals with_reducible rfl
                      try simp only [Act.put, List.getElem_toArray, List.getElem_cons_succ, List.getElem_cons_zero, List.setIfInBounds_toArray, List.set_cons_zero, List.set_cons_succ]
                      refine wpAnyH_take (i := 12) (v := ?_) rfl (by kernel_rfl) (by kernel_rfl) (by kernel_rfl) (fun _ _ _ h => h) (Or.inl ⟨by rfl, ?_⟩) (by assumption) ?_
                      rotate_left
                      · intro w hSw
                        (try dsimp only at hSw)
                        go_simp
                        all_goals with_reducible rfl
                      try simp only [Act.put, List.getElem_toArray, List.getElem_cons_succ, List.getElem_cons_zero, List.setIfInBounds_toArray, List.set_cons_zero, List.set_cons_succ]
                      refine wpAnyH_take (i := 13) (v := ?_) rfl (by kernel_rfl) (by kernel_rfl) (by kernel_rfl) (fun _ _ _ h => h) (Or.inl ⟨by rfl, ?_⟩) (by assumption) ?_
                      rotate_left
                      · intro w hSw
                        (try dsimp only at hSw)
                        go_simp
                        all_goals with_reducible rfl
                      try simp only [Act.put, List.getElem_toArray, List.getElem_cons_succ, List.getElem_cons_zero, List.setIfInBounds_toArray, List.set_cons_zero, List.set_cons_succ]
                      refine wpAnyH_take (i := 14) (v := ?_) rfl (by kernel_rfl) (by kernel_rfl) (by kernel_rfl) (fun _ _ _ h => h) (Or.inl ⟨by rfl, ?_⟩) (by assumption) ?_
                      rotate_left
                      · intro w hSw
                        (try dsimp only at hSw)
                        go_simp
                        all_goals with_reducible rfl
                      try simp only [Act.put, List.getElem_toArray, List.getElem_cons_succ, List.getElem_cons_zero, List.setIfInBounds_toArray, List.set_cons_zero, List.set_cons_succ]
                      refine wpAnyH_take (i := 15) (v := ?_) rfl (by kernel_rfl) (by kernel_rfl) (by kernel_rfl) (fun _ _ _ h => h) (Or.inl ⟨by rfl, ?_⟩) (by assumption) ?_
                      rotate_left
                      · intro w hSw
                        (try dsimp only at hSw)
                        go_simp
                        all_goals with_reducible rfl
                      try simp only [Act.put, List.getElem_toArray, List.getElem_cons_succ, List.getElem_cons_zero, List.setIfInBounds_toArray, List.set_cons_zero, List.set_cons_succ]
                      refine wpAnyH_take (i := 16) (v := ?_) rfl (by kernel_rfl) (by kernel_rfl) (by kernel_rfl) (fun _ _ _ h => h) (Or.inl ⟨by rfl, ?_⟩) (by assumption) ?_
                      rotate_left
                      · intro w hSw
                        (try dsimp only at hSw)
                        go_simp
                        all_goals with_reducible rfl
                      try simp only [Act.put, List.getElem_toArray, List.getElem_cons_succ, List.getElem_cons_zero, List.setIfInBounds_toArray, List.set_cons_zero, List.set_cons_succ]
                      refine wpAnyH_done (by kernel_rfl) ?_ _
                      clear hHeld kc0
                      go_wp2_with fail
                      refine (RD.out _ (Below.drew (Below.refl wr.heap.size wr))).mono ?_
                      rintro e w8 hN
                      obtain ⟨x, xc, rfl, hxs, _, hb8⟩ := NewBytes.out (KR.out.on (Below.drew (Below.refl wr.heap.size wr))) hN HF.out
                      rw [htl] at hxs ⊢
                      have hb9 : Below wr.heap.size wr w8 := Below.trans (Below.drew (Below.refl wr.heap.size wr)) hb8
                      have KS := Lib.hid (fun (y : World) (hy : Below w8.heap.size w8 y) => (run_str (hxs.below hy (Nat.le_refl _)) 31 5 9 Try.underlying31 Try.underlying5 Try.underlying9 : (convert 31 9 (.slice x cm xc)).run Try.prog y = .ok (.string (strOf us)) y))
                      have hn9 := HN9.out.2
                      have cw9 := (hb9.cell (p := ⟨gw, m, none⟩) (block_lt_of_cell cw0)).trans cw0
                      have cl9 := (hb9.cell (p := ⟨gl, m, none⟩) (block_lt_of_cell cl0)).trans cl0
                      have n9 := (hb9.cell (p := ⟨b', m, none⟩) (block_lt_of_cell hn9)).trans hn9
                      have S0 : ∀ y, Below w8.heap.size w8 y → ((convert 31 9 (.slice x cm xc)).run Try.prog y = .ok (.string (strOf us)) y ∧ y.cell? ⟨gw, m, none⟩ = some (.string sb) ∧ y.cell? ⟨gl, m, none⟩ = some (.int .i64 (l0 : Int)) ∧ y.cell? ⟨b', m, none⟩ = some (.string ⟨s.toArray⟩) ∧ Below w8.heap.size w8 y) := fun y hy =>
                        ⟨KS.out y hy, (hy.cell (p := ⟨gw, m, none⟩) (block_lt_of_cell cw9)).trans cw9, (hy.cell (p := ⟨gl, m, none⟩) (block_lt_of_cell cl9)).trans cl9, (hy.cell (p := ⟨b', m, none⟩) (block_lt_of_cell n9)).trans n9, hy⟩
                      have S1 := S0 _ (Below.drew (Below.refl _ _))
                      have HB8 := Lib.hid (And.intro hb8 hb9)
                      clear hN hxs hb8 hb9 hn9 cw9 cl9 n9 S0 cw0 cl0
                      go_wp2_with fail
                      refine wp_region_held_drew (S := fun y => (convert 31 9 (.slice x cm xc)).run Try.prog y = .ok (.string (strOf us)) y ∧ y.cell? ⟨gw, m, none⟩ = some (.string sb) ∧ y.cell? ⟨gl, m, none⟩ = some (.int .i64 (l0 : Int)) ∧ y.cell? ⟨b', m, none⟩ = some (.string ⟨s.toArray⟩) ∧ Below w8.heap.size w8 y) (by kernel_rfl) S1 (fun hHeld => ?_)
                      clear S1
                      refine wpAnyH_take (i := 0) (v := ?_) rfl (by kernel_rfl) (by kernel_rfl) (by kernel_rfl) (fun _ _ _ h => h) (Or.inl ⟨by rfl, ?_⟩) (by assumption) ?_
                      rotate_left
                      · intro w hSw
                        (try dsimp only at hSw)
                        go_simp
                        all_goals with_reducible rfl
                      try simp only [Act.put, List.getElem_toArray, List.getElem_cons_succ, List.getElem_cons_zero, List.setIfInBounds_toArray, List.set_cons_zero, List.set_cons_succ]
                      refine wpAnyH_take (i := 1) (v := ?_) rfl (by kernel_rfl) (by kernel_rfl) (by kernel_rfl) (fun _ _ _ h => h) (Or.inl ⟨by rfl, ?_⟩) (by assumption) ?_
                      rotate_left
                      · intro w hSw
                        (try dsimp only at hSw)
                        go_simp
                        all_goals with_reducible rfl
                      try simp only [Act.put, List.getElem_toArray, List.getElem_cons_succ, List.getElem_cons_zero, List.setIfInBounds_toArray, List.set_cons_zero, List.set_cons_succ]
                      refine wpAnyH_take (i := 2) (v := ?_) rfl (by kernel_rfl) (by kernel_rfl) (by kernel_rfl) (fun _ _ _ h => h) (Or.inl ⟨by rfl, ?_⟩) (by assumption) ?_
                      rotate_left
                      · intro w hSw
                        (try dsimp only at hSw)
                        go_simp
                        all_goals with_reducible rfl
                      try simp only [Act.put, List.getElem_toArray, List.getElem_cons_succ, List.getElem_cons_zero, List.setIfInBounds_toArray, List.set_cons_zero, List.set_cons_succ]
                      refine wpAnyH_take (i := 3) (v := ?_) rfl (by kernel_rfl) (by kernel_rfl) (by kernel_rfl) (fun _ _ _ h => h) (Or.inl ⟨by rfl, ?_⟩) (by assumption) ?_
                      rotate_left
                      · intro w hSw
                        (try dsimp only at hSw)
                        go_simp
                        all_goals with_reducible rfl
                      try simp only [Act.put, List.getElem_toArray, List.getElem_cons_succ, List.getElem_cons_zero, List.setIfInBounds_toArray, List.set_cons_zero, List.set_cons_succ]
                      refine wpAnyH_take (i := 4) (v := ?_) rfl (by kernel_rfl) (by kernel_rfl) (by kernel_rfl) (fun _ _ _ h => h) (Or.inl ⟨by rfl, ?_⟩) (by assumption) ?_
                      rotate_left
                      · intro w hSw
                        (try dsimp only at hSw)
                        go_simp
                        all_goals with_reducible rfl
                      try simp only [Act.put, List.getElem_toArray, List.getElem_cons_succ, List.getElem_cons_zero, List.setIfInBounds_toArray, List.set_cons_zero, List.set_cons_succ]
                      refine wpAnyH_take (i := 5) (v := ?_) rfl (by kernel_rfl) (by kernel_rfl) (by kernel_rfl) (fun _ _ _ h => h) (Or.inl ⟨by rfl, ?_⟩) (by assumption) ?_
                      rotate_left
                      · intro w hSw
                        (try dsimp only at hSw)
                        go_simp
                        all_goals with_reducible rfl
                      try simp only [Act.put, List.getElem_toArray, List.getElem_cons_succ, List.getElem_cons_zero, List.setIfInBounds_toArray, List.set_cons_zero, List.set_cons_succ]
                      refine wpAnyH_take (i := 6) (v := ?_) rfl (by kernel_rfl) (by kernel_rfl) (by kernel_rfl) (fun _ _ _ h => h) (Or.inl ⟨by rfl, ?_⟩) (by assumption) ?_
                      rotate_left
                      · intro w hSw
                        (try dsimp only at hSw)
                        go_simp
                        all_goals with_reducible rfl
                      try simp only [Act.put, List.getElem_toArray, List.getElem_cons_succ, List.getElem_cons_zero, List.setIfInBounds_toArray, List.set_cons_zero, List.set_cons_succ]
                      refine wpAnyH_take (i := 7) (v := ?_) rfl (by kernel_rfl) (by kernel_rfl) (by kernel_rfl) (fun _ _ _ h => h) (Or.inl ⟨by rfl, ?_⟩) (by assumption) ?_
                      rotate_left
                      · intro w hSw
                        (try dsimp only at hSw)
                        go_simp
                        all_goals with_reducible rfl
                      try simp only [Act.put, List.getElem_toArray, List.getElem_cons_succ, List.getElem_cons_zero, List.setIfInBounds_toArray, List.set_cons_zero, List.set_cons_succ]
                      refine wpAnyH_take (i := 8) (v := ?_) rfl (by kernel_rfl) (by kernel_rfl) (by kernel_rfl) (fun _ _ _ h => h) (Or.inl ⟨by rfl, ?_⟩) (by assumption) ?_
                      rotate_left
                      · intro w hSw
                        (try dsimp only at hSw)
                        go_simp
                        all_goals with_reducible rfl
                      try simp only [Act.put, List.getElem_toArray, List.getElem_cons_succ, List.getElem_cons_zero, List.setIfInBounds_toArray, List.set_cons_zero, List.set_cons_succ]
                      refine wpAnyH_take (i := 9) (v := ?_) rfl (by kernel_rfl) (by kernel_rfl) (by kernel_rfl) (fun _ _ _ h => h) (Or.inl ⟨by rfl, ?_⟩) (by assumption) ?_
                      rotate_left
                      · intro w hSw
                        (try dsimp only at hSw)
                        go_simp
                        all_goals with_reducible rfl
                      try simp only [Act.put, List.getElem_toArray, List.getElem_cons_succ, List.getElem_cons_zero, List.setIfInBounds_toArray, List.set_cons_zero, List.set_cons_succ]
                      refine wpAnyH_take (i := 10) (v := ?_) rfl (by kernel_rfl) (by kernel_rfl) (by kernel_rfl) (fun _ _ _ h => h) (Or.inl ⟨by rfl, ?_⟩) (by assumption) ?_
                      rotate_left
                      · intro w hSw
                        (try dsimp only at hSw)
                        go_simp
                        all_goals with_reducible rfl
                      try simp only [Act.put, List.getElem_toArray, List.getElem_cons_succ, List.getElem_cons_zero, List.setIfInBounds_toArray, List.set_cons_zero, List.set_cons_succ]
                      refine wpAnyH_take (i := 11) (v := ?_) rfl (by kernel_rfl) (by kernel_rfl) (by kernel_rfl) (fun _ _ _ h => h) (Or.inl ⟨by rfl, ?_⟩) (by assumption) ?_
                      rotate_left
                      · intro w hSw
                        (try dsimp only at hSw)
                        go_simp
                        all_goals with_reducible rfl
                      try simp only [Act.put, List.getElem_toArray, List.getElem_cons_succ, List.getElem_cons_zero, List.setIfInBounds_toArray, List.set_cons_zero, List.set_cons_succ]
                      refine wpAnyH_take (i := 12) (v := ?_) rfl (by kernel_rfl) (by kernel_rfl) (by kernel_rfl) (fun _ _ _ h => h) (Or.inl ⟨by rfl, ?_⟩) (by assumption) ?_
                      rotate_left
                      · intro w hSw
                        (try dsimp only at hSw)
                        go_simp
                        all_goals with_reducible rfl
                      try simp only [Act.put, List.getElem_toArray, List.getElem_cons_succ, List.getElem_cons_zero, List.setIfInBounds_toArray, List.set_cons_zero, List.set_cons_succ]
                      refine wpAnyH_take (i := 13) (v := ?_) rfl (by kernel_rfl) (by kernel_rfl) (by kernel_rfl) (fun _ _ _ h => h) (Or.inl ⟨by rfl, ?_⟩) (by assumption) ?_
                      rotate_left
                      · intro w hSw
                        (try dsimp only at hSw)
                        go_simp
                        all_goals with_reducible rfl
                      try simp only [Act.put, List.getElem_toArray, List.getElem_cons_succ, List.getElem_cons_zero, List.setIfInBounds_toArray, List.set_cons_zero, List.set_cons_succ]
                      refine wpAnyH_take (i := 14) (v := ?_) rfl (by kernel_rfl) (by kernel_rfl) (by kernel_rfl) (fun _ _ _ h => h) (Or.inl ⟨by rfl, ?_⟩) (by assumption) ?_
                      rotate_left
                      · intro w hSw
                        (try dsimp only at hSw)
                        go_simp
                        all_goals with_reducible rfl
                      try simp only [Act.put, List.getElem_toArray, List.getElem_cons_succ, List.getElem_cons_zero, List.setIfInBounds_toArray, List.set_cons_zero, List.set_cons_succ]
                      refine wpAnyH_take (i := 15) (v := ?_) rfl (by kernel_rfl) (by kernel_rfl) (by kernel_rfl) (fun _ _ _ h => h) (Or.inl ⟨by rfl, ?_⟩) (by assumption) ?_
                      rotate_left
                      · intro w hSw
                        (try dsimp only at hSw)
                        go_simp
                        all_goals with_reducible rfl
                      try simp only [Act.put, List.getElem_toArray, List.getElem_cons_succ, List.getElem_cons_zero, List.setIfInBounds_toArray, List.set_cons_zero, List.set_cons_succ]
                      refine wpAnyH_take (i := 16) (v := ?_) rfl (by kernel_rfl) (by kernel_rfl) (by kernel_rfl) (fun _ _ _ h => h) (Or.inl ⟨by rfl, ?_⟩) (by assumption) ?_
                      rotate_left
                      · intro w hSw
                        (try dsimp only at hSw)
                        go_simp
                        all_goals with_reducible rfl
                      try simp only [Act.put, List.getElem_toArray, List.getElem_cons_succ, List.getElem_cons_zero, List.setIfInBounds_toArray, List.set_cons_zero, List.set_cons_succ]
                      refine wpAnyH_take (i := 17) (v := ?_) rfl (by kernel_rfl) (by kernel_rfl) (by kernel_rfl) (fun _ _ _ h => h) (Or.inl ⟨by rfl, ?_⟩) (by assumption) ?_
                      rotate_left
                      · intro w hSw
                        (try dsimp only at hSw)
                        go_simp
                        all_goals with_reducible rfl
                      try simp only [Act.put, List.getElem_toArray, List.getElem_cons_succ, List.getElem_cons_zero, List.setIfInBounds_toArray, List.set_cons_zero, List.set_cons_succ]
                      refine wpAnyH_take (i := 18) (v := ?_) rfl (by kernel_rfl) (by kernel_rfl) (by kernel_rfl) (fun _ _ _ h => h) (Or.inl ⟨by rfl, ?_⟩) (by assumption) ?_
                      rotate_left
                      · intro w hSw
                        (try dsimp only at hSw)
                        go_simp
                        all_goals with_reducible rfl
                      try simp only [Act.put, List.getElem_toArray, List.getElem_cons_succ, List.getElem_cons_zero, List.setIfInBounds_toArray, List.set_cons_zero, List.set_cons_succ]
                      refine wpAnyH_take (i := 19) (v := ?_) rfl (by kernel_rfl) (by kernel_rfl) (by kernel_rfl) (fun _ _ _ h => h) (Or.inl ⟨by rfl, ?_⟩) (by assumption) ?_
                      rotate_left
                      · intro w hSw
                        (try dsimp only at hSw)
                        go_simp
                        all_goals with_reducible rfl
                      try simp only [Act.put, List.getElem_toArray, List.getElem_cons_succ, List.getElem_cons_zero, List.setIfInBounds_toArray, List.set_cons_zero, List.set_cons_succ]
                      refine take_first (i := 20) rfl (by kernel_rfl) (by kernel_rfl) (by kernel_rfl) (fun _ _ _ h => h) (GivesIf.call (by rfl) (fun w => ?_) (fun w hS => SY0.out w (HB8.out.2.trans (hS.2.2.2.2.mono HB8.out.2.size)))) (by assumption) ?_
                      · go_simp
                        all_goals with_reducible rfl
                      try simp only [Act.put, List.getElem_toArray, List.getElem_cons_succ, List.getElem_cons_zero, List.setIfInBounds_toArray, List.set_cons_zero, List.set_cons_succ]
                      refine wpAnyH_take (i := 21) (v := ?_) rfl (by kernel_rfl) (by kernel_rfl) (by kernel_rfl) (fun _ _ _ h => h) (Or.inl ⟨by rfl, ?_⟩) (by assumption) ?_
                      rotate_left
                      · intro w hSw
                        (try dsimp only at hSw)
                        go_simp
                        all_goals with_reducible rfl
                      try simp only [Act.put, List.getElem_toArray, List.getElem_cons_succ, List.getElem_cons_zero, List.setIfInBounds_toArray, List.set_cons_zero, List.set_cons_succ]
                      refine wpAnyH_take (i := 22) (v := ?_) rfl (by kernel_rfl) (by kernel_rfl) (by kernel_rfl) (fun _ _ _ h => h) (Or.inl ⟨by rfl, ?_⟩) (by assumption) ?_
                      rotate_left
                      · intro w hSw
                        (try dsimp only at hSw)
                        go_simp
                        all_goals with_reducible rfl
                      try simp only [Act.put, List.getElem_toArray, List.getElem_cons_succ, List.getElem_cons_zero, List.setIfInBounds_toArray, List.set_cons_zero, List.set_cons_succ]
                      refine wpAnyH_take (i := 23) (v := ?_) rfl (by kernel_rfl) (by kernel_rfl) (by kernel_rfl) (fun _ _ _ h => h) (Or.inl ⟨by rfl, ?_⟩) (by assumption) ?_
                      rotate_left
                      · intro w hSw
                        (try dsimp only at hSw)
                        go_simp
                        all_goals with_reducible rfl
                      try simp only [Act.put, List.getElem_toArray, List.getElem_cons_succ, List.getElem_cons_zero, List.setIfInBounds_toArray, List.set_cons_zero, List.set_cons_succ]
                      refine wpAnyH_take (i := 24) (v := ?_) rfl (by kernel_rfl) (by kernel_rfl) (by kernel_rfl) (fun _ _ _ h => h) (Or.inl ⟨by rfl, ?_⟩) (by assumption) ?_
                      rotate_left
                      · intro w hSw
                        (try dsimp only at hSw)
                        go_simp
                        all_goals with_reducible rfl
                      try simp only [Act.put, List.getElem_toArray, List.getElem_cons_succ, List.getElem_cons_zero, List.setIfInBounds_toArray, List.set_cons_zero, List.set_cons_succ]
                      refine wpAnyH_done (by kernel_rfl) ?_ _
                      clear hHeld
                      go_wp2
                      go_roundw
                      case rel => exact ⟨m + 1, by omega, by go_num, HN9.out.1.trans ((Below.drew HB8.out.2).mono HN9.out.1.size)⟩
                      case measure => simp [intOf]; omega
                    · have w2 : IntKind.i64.wrap ((l0 : Int) + 0) = (cm : Int) := by have h1 := hcm.out; rw [show keptV ks m ((nb : Int) - (l0 : Int)) = 0 from by unfold keptV; rw [if_neg (by omega)]] at h1; rw [IntKind.wrap_i64]; simp at h1; omega
                      have w3 : IntKind.i64.wrap (l0 : Int) = (cm : Int) := by have := w2; rw [Int.add_zero] at this; exact this
                      clear hcm
                      go_wp2_with fail
                      refine (RD.out _ (Below.refl wr.heap.size wr)).mono ?_
                      rintro e w8 hN
                      obtain ⟨x, xc, rfl, hxs, _, hb8⟩ := NewBytes.out (KR.out.on (Below.refl wr.heap.size wr)) hN HF.out
                      rw [htl] at hxs ⊢
                      have hb9 : Below wr.heap.size wr w8 := Below.trans (Below.refl wr.heap.size wr) hb8
                      have KS := Lib.hid (fun (y : World) (hy : Below w8.heap.size w8 y) => (run_str (hxs.below hy (Nat.le_refl _)) 31 5 9 Try.underlying31 Try.underlying5 Try.underlying9 : (convert 31 9 (.slice x cm xc)).run Try.prog y = .ok (.string (strOf us)) y))
                      have hn9 := HN9.out.2
                      have cw9 := (hb9.cell (p := ⟨gw, m, none⟩) (block_lt_of_cell cw0)).trans cw0
                      have cl9 := (hb9.cell (p := ⟨gl, m, none⟩) (block_lt_of_cell cl0)).trans cl0
                      have n9 := (hb9.cell (p := ⟨b', m, none⟩) (block_lt_of_cell hn9)).trans hn9
                      have S0 : ∀ y, Below w8.heap.size w8 y → ((convert 31 9 (.slice x cm xc)).run Try.prog y = .ok (.string (strOf us)) y ∧ y.cell? ⟨gw, m, none⟩ = some (.string sb) ∧ y.cell? ⟨gl, m, none⟩ = some (.int .i64 (l0 : Int)) ∧ y.cell? ⟨b', m, none⟩ = some (.string ⟨s.toArray⟩) ∧ Below w8.heap.size w8 y) := fun y hy =>
                        ⟨KS.out y hy, (hy.cell (p := ⟨gw, m, none⟩) (block_lt_of_cell cw9)).trans cw9, (hy.cell (p := ⟨gl, m, none⟩) (block_lt_of_cell cl9)).trans cl9, (hy.cell (p := ⟨b', m, none⟩) (block_lt_of_cell n9)).trans n9, hy⟩
                      have S1 := S0 _ (Below.drew (Below.refl _ _))
                      have HB8 := Lib.hid (And.intro hb8 hb9)
                      clear hN hxs hb8 hb9 hn9 cw9 cl9 n9 S0 cw0 cl0
                      go_wp2_with fail
                      refine wp_region_held_drew (S := fun y => (convert 31 9 (.slice x cm xc)).run Try.prog y = .ok (.string (strOf us)) y ∧ y.cell? ⟨gw, m, none⟩ = some (.string sb) ∧ y.cell? ⟨gl, m, none⟩ = some (.int .i64 (l0 : Int)) ∧ y.cell? ⟨b', m, none⟩ = some (.string ⟨s.toArray⟩) ∧ Below w8.heap.size w8 y) (by kernel_rfl) S1 (fun hHeld => ?_)
                      clear S1
                      refine wpAnyH_take (i := 0) (v := ?_) rfl (by kernel_rfl) (by kernel_rfl) (by kernel_rfl) (fun _ _ _ h => h) (Or.inl ⟨by rfl, ?_⟩) (by assumption) ?_
                      rotate_left
                      · intro w hSw
                        (try dsimp only at hSw)
                        go_simp
                        all_goals with_reducible rfl
                      try simp only [Act.put, List.getElem_toArray, List.getElem_cons_succ, List.getElem_cons_zero, List.setIfInBounds_toArray, List.set_cons_zero, List.set_cons_succ]
                      refine wpAnyH_take (i := 1) (v := ?_) rfl (by kernel_rfl) (by kernel_rfl) (by kernel_rfl) (fun _ _ _ h => h) (Or.inl ⟨by rfl, ?_⟩) (by assumption) ?_
                      rotate_left
                      · intro w hSw
                        (try dsimp only at hSw)
                        go_simp
                        all_goals with_reducible rfl
                      try simp only [Act.put, List.getElem_toArray, List.getElem_cons_succ, List.getElem_cons_zero, List.setIfInBounds_toArray, List.set_cons_zero, List.set_cons_succ]
                      refine wpAnyH_take (i := 2) (v := ?_) rfl (by kernel_rfl) (by kernel_rfl) (by kernel_rfl) (fun _ _ _ h => h) (Or.inl ⟨by rfl, ?_⟩) (by assumption) ?_
                      rotate_left
                      · intro w hSw
                        (try dsimp only at hSw)
                        go_simp
                        all_goals with_reducible rfl
                      try simp only [Act.put, List.getElem_toArray, List.getElem_cons_succ, List.getElem_cons_zero, List.setIfInBounds_toArray, List.set_cons_zero, List.set_cons_succ]
                      refine wpAnyH_take (i := 3) (v := ?_) rfl (by kernel_rfl) (by kernel_rfl) (by kernel_rfl) (fun _ _ _ h => h) (Or.inl ⟨by rfl, ?_⟩) (by assumption) ?_
                      rotate_left
                      · intro w hSw
                        (try dsimp only at hSw)
                        go_simp
                        all_goals with_reducible rfl
                      try simp only [Act.put, List.getElem_toArray, List.getElem_cons_succ, List.getElem_cons_zero, List.setIfInBounds_toArray, List.set_cons_zero, List.set_cons_succ]
                      refine wpAnyH_take (i := 4) (v := ?_) rfl (by kernel_rfl) (by kernel_rfl) (by kernel_rfl) (fun _ _ _ h => h) (Or.inl ⟨by rfl, ?_⟩) (by assumption) ?_
                      rotate_left
                      · intro w hSw
                        (try dsimp only at hSw)
                        go_simp
                        all_goals with_reducible rfl
                      try simp only [Act.put, List.getElem_toArray, List.getElem_cons_succ, List.getElem_cons_zero, List.setIfInBounds_toArray, List.set_cons_zero, List.set_cons_succ]
                      refine wpAnyH_take (i := 5) (v := ?_) rfl (by kernel_rfl) (by kernel_rfl) (by kernel_rfl) (fun _ _ _ h => h) (Or.inl ⟨by rfl, ?_⟩) (by assumption) ?_
                      rotate_left
                      · intro w hSw
                        (try dsimp only at hSw)
                        go_simp
                        all_goals with_reducible rfl
                      try simp only [Act.put, List.getElem_toArray, List.getElem_cons_succ, List.getElem_cons_zero, List.setIfInBounds_toArray, List.set_cons_zero, List.set_cons_succ]
                      refine wpAnyH_take (i := 6) (v := ?_) rfl (by kernel_rfl) (by kernel_rfl) (by kernel_rfl) (fun _ _ _ h => h) (Or.inl ⟨by rfl, ?_⟩) (by assumption) ?_
                      rotate_left
                      · intro w hSw
                        (try dsimp only at hSw)
                        go_simp
                        all_goals with_reducible rfl
                      try simp only [Act.put, List.getElem_toArray, List.getElem_cons_succ, List.getElem_cons_zero, List.setIfInBounds_toArray, List.set_cons_zero, List.set_cons_succ]
                      refine wpAnyH_take (i := 7) (v := ?_) rfl (by kernel_rfl) (by kernel_rfl) (by kernel_rfl) (fun _ _ _ h => h) (Or.inl ⟨by rfl, ?_⟩) (by assumption) ?_
                      rotate_left
                      · intro w hSw
                        (try dsimp only at hSw)
                        go_simp
                        all_goals with_reducible rfl
                      try simp only [Act.put, List.getElem_toArray, List.getElem_cons_succ, List.getElem_cons_zero, List.setIfInBounds_toArray, List.set_cons_zero, List.set_cons_succ]
                      refine wpAnyH_take (i := 8) (v := ?_) rfl (by kernel_rfl) (by kernel_rfl) (by kernel_rfl) (fun _ _ _ h => h) (Or.inl ⟨by rfl, ?_⟩) (by assumption) ?_
                      rotate_left
                      · intro w hSw
                        (try dsimp only at hSw)
                        go_simp
                        all_goals with_reducible rfl
                      try simp only [Act.put, List.getElem_toArray, List.getElem_cons_succ, List.getElem_cons_zero, List.setIfInBounds_toArray, List.set_cons_zero, List.set_cons_succ]
                      refine wpAnyH_take (i := 9) (v := ?_) rfl (by kernel_rfl) (by kernel_rfl) (by kernel_rfl) (fun _ _ _ h => h) (Or.inl ⟨by rfl, ?_⟩) (by assumption) ?_
                      rotate_left
                      · intro w hSw
                        (try dsimp only at hSw)
                        go_simp
                        all_goals with_reducible rfl
                      try simp only [Act.put, List.getElem_toArray, List.getElem_cons_succ, List.getElem_cons_zero, List.setIfInBounds_toArray, List.set_cons_zero, List.set_cons_succ]
                      refine wpAnyH_take (i := 10) (v := ?_) rfl (by kernel_rfl) (by kernel_rfl) (by kernel_rfl) (fun _ _ _ h => h) (Or.inl ⟨by rfl, ?_⟩) (by assumption) ?_
                      rotate_left
                      · intro w hSw
                        (try dsimp only at hSw)
                        go_simp
                        all_goals with_reducible rfl
                      try simp only [Act.put, List.getElem_toArray, List.getElem_cons_succ, List.getElem_cons_zero, List.setIfInBounds_toArray, List.set_cons_zero, List.set_cons_succ]
                      refine wpAnyH_take (i := 11) (v := ?_) rfl (by kernel_rfl) (by kernel_rfl) (by kernel_rfl) (fun _ _ _ h => h) (Or.inl ⟨by rfl, ?_⟩) (by assumption) ?_
                      rotate_left
                      · intro w hSw
                        (try dsimp only at hSw)
                        go_simp
                        all_goals with_reducible rfl
                      try simp only [Act.put, List.getElem_toArray, List.getElem_cons_succ, List.getElem_cons_zero, List.setIfInBounds_toArray, List.set_cons_zero, List.set_cons_succ]
                      refine wpAnyH_take (i := 12) (v := ?_) rfl (by kernel_rfl) (by kernel_rfl) (by kernel_rfl) (fun _ _ _ h => h) (Or.inl ⟨by rfl, ?_⟩) (by assumption) ?_
                      rotate_left
                      · intro w hSw
                        (try dsimp only at hSw)
                        go_simp
                        all_goals with_reducible rfl
                      try simp only [Act.put, List.getElem_toArray, List.getElem_cons_succ, List.getElem_cons_zero, List.setIfInBounds_toArray, List.set_cons_zero, List.set_cons_succ]
                      refine wpAnyH_take (i := 13) (v := ?_) rfl (by kernel_rfl) (by kernel_rfl) (by kernel_rfl) (fun _ _ _ h => h) (Or.inl ⟨by rfl, ?_⟩) (by assumption) ?_
                      rotate_left
                      · intro w hSw
                        (try dsimp only at hSw)
                        go_simp
                        all_goals with_reducible rfl
                      try simp only [Act.put, List.getElem_toArray, List.getElem_cons_succ, List.getElem_cons_zero, List.setIfInBounds_toArray, List.set_cons_zero, List.set_cons_succ]
                      refine wpAnyH_take (i := 14) (v := ?_) rfl (by kernel_rfl) (by kernel_rfl) (by kernel_rfl) (fun _ _ _ h => h) (Or.inl ⟨by rfl, ?_⟩) (by assumption) ?_
                      rotate_left
                      · intro w hSw
                        (try dsimp only at hSw)
                        go_simp
                        all_goals with_reducible rfl
                      try simp only [Act.put, List.getElem_toArray, List.getElem_cons_succ, List.getElem_cons_zero, List.setIfInBounds_toArray, List.set_cons_zero, List.set_cons_succ]
                      refine wpAnyH_take (i := 15) (v := ?_) rfl (by kernel_rfl) (by kernel_rfl) (by kernel_rfl) (fun _ _ _ h => h) (Or.inl ⟨by rfl, ?_⟩) (by assumption) ?_
                      rotate_left
                      · intro w hSw
                        (try dsimp only at hSw)
                        go_simp
                        all_goals with_reducible rfl
                      try simp only [Act.put, List.getElem_toArray, List.getElem_cons_succ, List.getElem_cons_zero, List.setIfInBounds_toArray, List.set_cons_zero, List.set_cons_succ]
                      refine wpAnyH_take (i := 16) (v := ?_) rfl (by kernel_rfl) (by kernel_rfl) (by kernel_rfl) (fun _ _ _ h => h) (Or.inl ⟨by rfl, ?_⟩) (by assumption) ?_
                      rotate_left
                      · intro w hSw
                        (try dsimp only at hSw)
                        go_simp
                        all_goals with_reducible rfl
                      try simp only [Act.put, List.getElem_toArray, List.getElem_cons_succ, List.getElem_cons_zero, List.setIfInBounds_toArray, List.set_cons_zero, List.set_cons_succ]
                      refine wpAnyH_take (i := 17) (v := ?_) rfl (by kernel_rfl) (by kernel_rfl) (by kernel_rfl) (fun _ _ _ h => h) (Or.inl ⟨by rfl, ?_⟩) (by assumption) ?_
                      rotate_left
                      · intro w hSw
                        (try dsimp only at hSw)
                        go_simp
                        all_goals with_reducible rfl
                      try simp only [Act.put, List.getElem_toArray, List.getElem_cons_succ, List.getElem_cons_zero, List.setIfInBounds_toArray, List.set_cons_zero, List.set_cons_succ]
                      refine wpAnyH_take (i := 18) (v := ?_) rfl (by kernel_rfl) (by kernel_rfl) (by kernel_rfl) (fun _ _ _ h => h) (Or.inl ⟨by rfl, ?_⟩) (by assumption) ?_
                      rotate_left
                      · intro w hSw
                        (try dsimp only at hSw)
                        go_simp
                        all_goals with_reducible rfl
                      try simp only [Act.put, List.getElem_toArray, List.getElem_cons_succ, List.getElem_cons_zero, List.setIfInBounds_toArray, List.set_cons_zero, List.set_cons_succ]
                      refine wpAnyH_take (i := 19) (v := ?_) rfl (by kernel_rfl) (by kernel_rfl) (by kernel_rfl) (fun _ _ _ h => h) (Or.inl ⟨by rfl, ?_⟩) (by assumption) ?_
                      rotate_left
                      · intro w hSw
                        (try dsimp only at hSw)
                        go_simp
                        all_goals with_reducible rfl
                      try simp only [Act.put, List.getElem_toArray, List.getElem_cons_succ, List.getElem_cons_zero, List.setIfInBounds_toArray, List.set_cons_zero, List.set_cons_succ]
                      refine take_first (i := 20) rfl (by kernel_rfl) (by kernel_rfl) (by kernel_rfl) (fun _ _ _ h => h) (GivesIf.call (by rfl) (fun w => ?_) (fun w hS => SY0.out w (HB8.out.2.trans (hS.2.2.2.2.mono HB8.out.2.size)))) (by assumption) ?_
                      · go_simp
                        all_goals with_reducible rfl
                      try simp only [Act.put, List.getElem_toArray, List.getElem_cons_succ, List.getElem_cons_zero, List.setIfInBounds_toArray, List.set_cons_zero, List.set_cons_succ]
                      refine wpAnyH_take (i := 21) (v := ?_) rfl (by kernel_rfl) (by kernel_rfl) (by kernel_rfl) (fun _ _ _ h => h) (Or.inl ⟨by rfl, ?_⟩) (by assumption) ?_
                      rotate_left
                      · intro w hSw
                        (try dsimp only at hSw)
                        go_simp
                        all_goals with_reducible rfl
                      try simp only [Act.put, List.getElem_toArray, List.getElem_cons_succ, List.getElem_cons_zero, List.setIfInBounds_toArray, List.set_cons_zero, List.set_cons_succ]
                      refine wpAnyH_take (i := 22) (v := ?_) rfl (by kernel_rfl) (by kernel_rfl) (by kernel_rfl) (fun _ _ _ h => h) (Or.inl ⟨by rfl, ?_⟩) (by assumption) ?_
                      rotate_left
                      · intro w hSw
                        (try dsimp only at hSw)
                        go_simp
                        all_goals with_reducible rfl
                      try simp only [Act.put, List.getElem_toArray, List.getElem_cons_succ, List.getElem_cons_zero, List.setIfInBounds_toArray, List.set_cons_zero, List.set_cons_succ]
                      refine wpAnyH_take (i := 23) (v := ?_) rfl (by kernel_rfl) (by kernel_rfl) (by kernel_rfl) (fun _ _ _ h => h) (Or.inl ⟨by rfl, ?_⟩) (by assumption) ?_
                      rotate_left
                      · intro w hSw
                        (try dsimp only at hSw)
                        go_simp
                        all_goals with_reducible rfl
                      try simp only [Act.put, List.getElem_toArray, List.getElem_cons_succ, List.getElem_cons_zero, List.setIfInBounds_toArray, List.set_cons_zero, List.set_cons_succ]
                      refine wpAnyH_take (i := 24) (v := ?_) rfl (by kernel_rfl) (by kernel_rfl) (by kernel_rfl) (fun _ _ _ h => h) (Or.inl ⟨by rfl, ?_⟩) (by assumption) ?_
                      rotate_left
                      · intro w hSw
                        (try dsimp only at hSw)
                        go_simp
                        all_goals with_reducible rfl
                      try simp only [Act.put, List.getElem_toArray, List.getElem_cons_succ, List.getElem_cons_zero, List.setIfInBounds_toArray, List.set_cons_zero, List.set_cons_succ]
                      refine wpAnyH_done (by kernel_rfl) ?_ _
                      clear hHeld
                      go_wp2
                      go_roundw
                      case rel => exact ⟨m + 1, by omega, by go_num, HN9.out.1.trans ((Below.drew HB8.out.2).mono HN9.out.1.size)⟩
                      case measure => simp [intOf]; omega
                  · have HE := Lib.hid hnm
                    clear hnm
                    go_wp2
                    go_ret
                    exact ⟨rfl, HB1.out.trans ((KC.out.on HE.out).below.mono HB1.out.size)⟩
      · go_wp2
        go_ret
        exact ⟨rfl, HB3.out⟩
    · go_wp2
      go_ret
      exact ⟨rfl, HB3.out⟩
  · have N2 := Lib.hid (fun w => new_no room hroom w)
    clear hroom
    go_wp2_with fail
    refine (N2.out _).mono ?_
    rintro e w2 ⟨rfl, rfl⟩
    go_wp2
    go_ret
    exact ⟨rfl, HB1.out⟩
end Go.Proofs.Yticjnjonhdcciaa
