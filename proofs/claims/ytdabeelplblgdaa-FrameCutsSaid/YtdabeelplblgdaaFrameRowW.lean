/- FrameRow: the walk. -/
import Derived.Test.YtdabeelplblgdaaFrOne
import Derived.Test.YtdabeelplblgdaaFrRows
namespace Go.Proofs.Ytdabeelplblgdaa
open Go.RowKit
open Crc Frm

theorem own_apart {w : World} {b1 b2 : Nat} {v u : Value} {bs : List Nat} {ts : List FC} (h : OwnB w b1 5 v bs) (k : OwnF w b2 u ts) : v.ownBlock = none ∨ v.ownBlock ≠ u.ownBlock := by
  rcases k.own.2 with ⟨rfl, _⟩ | ⟨g, cap, cur, rfl, _, hh, _⟩
  · cases v.ownBlock
    · exact .inl rfl
    · right; simp [Value.ownBlock]
  · exact .inr (own_ne h hh (by decide))
theorem own_apart' {w : World} {b1 b2 : Nat} {v u : Value} {bs : List Nat} {ts : List FC} (h : OwnB w b1 5 v bs) (k : OwnF w b2 u ts) : u.ownBlock = none ∨ u.ownBlock ≠ v.ownBlock := by
  rcases own_apart h k with e | e
  · cases hu : u.ownBlock
    · exact .inl rfl
    · right; rw [e]; simp
  · exact .inr (Ne.symm e)
theorem OwnF.kept {w w' : World} {base : Nat} {v : Value} {ts : List FC} {r : Option Nat} (h : OwnF w base v ts) (hg : w.grownBy w' r) (hne : v.ownBlock = none ∨ v.ownBlock ≠ r)
    (hb : ∀ t ∈ ts, 0 < t.1.body.length → ∀ b o, t.2.1 = some ⟨b, o, none⟩ → some b ≠ r) : OwnF w' base v ts :=
  ⟨World.ownsRow.kept h.own hg hne, fun t ht => ⟨((h.bodies t ht).1.kept hg (hb t ht)).more hg.size, (h.bodies t ht).2⟩⟩
def frS (c : Nat) : Fr := ⟨3, ((c % 6 : Nat) : Int), []⟩
theorem frS_right (c : Nat) : (frS c).right := by
  have := Nat.mod_lt c (show 0 < 6 by decide)
  unfold frS Fr.right
  simp only [List.length_nil]
  omega
def tsS (ss : List Nat) : List FC := ss.map fun c => (frS c, none, 0)
theorem tsS_fst (ss : List Nat) : (tsS ss).map (·.1) = ss.map frS := by simp [tsS]
theorem tsS_body (ss : List Nat) : ∀ t ∈ tsS ss, t.1.body = [] := by
  intro t ht
  obtain ⟨c, _, rfl⟩ := List.mem_map.1 ht
  rfl
theorem put_frS (c : Nat) : put (frS c) = raw (frS c) := by unfold put; rw [if_pos (frS_right c)]
theorem rows_le (ss : List Nat) : (rows (ss.map frS)).length = 11 * ss.length := by
  induction ss with
  | nil => rfl
  | cons c ss ih => rw [List.map_cons, rows_cons, List.length_append, raw_len, ih]; simp [frS]; omega
theorem ends_frS (ss : List Nat) (n : Nat) (h : n ≤ ss.length) : ends (ss.map frS) n = 11 * n := by
  unfold ends
  rw [← List.map_take, rows_le, List.length_take, Nat.min_eq_left h]

theorem run_cut_fr (a : Option Addr) (len cap k : Nat) (hk : k ≤ cap) (w : World) :
    (Instr.slice 29 (.slice a len cap) none (some (.int .i64 (k : Int))) none).run Try.prog w = .ok (.slice a k cap) w := by
  obtain ⟨i, hi, _, hz1, _⟩ := info_parts info_frame
  have hs : (sizeOf 24).run Try.prog w = .ok 3 w := by simp [sizeOf, typeInfo, hi, hz1]
  have ht' : Try.prog.underlying 29 = some (.slice (Try.prog.elem 29)) := by simp [Program.elem, Try.underlying29]
  have he : Try.prog.elem 29 = 24 := by simp [Program.elem, Try.underlying29]
  rw [run_slice_h w 29 _ _ _ ht' .i64 _ (by omega) (by omega), he, hs]
  have ha : a.map (fun x => x.add 0) = a := by cases a <;> simp [Addr.add]
  simp [Result.andThen, sliced, ha]

set_option maxRecDepth 100000 in
set_option maxHeartbeats 3200000 in
theorem frameRow_in (a : Option Addr) (len cap : Nat) (ss : List Nat) (f0 : Nat) (hf0 : f0 < 256) (w : World) (hs : Sl w w.heap.size a len cap ss) (h60 : len ≤ 60) :
    Calls Try.prog 7 #[.slice a len cap, .int .u8 (f0 : Int)] w fun e w' => e = .returned (.bool true) ∧ Below w.heap.size w w' := by
  have hle := hs.le
  have hsl := hs.length
  have hmx := hs.max
  unfold maxLen at hmx
  have h60' : (len : Int) ≤ 60 := by omega
  go_enter Try.func7, Try.ntmps7
  go_wp2_with fail
  refine (head_any _).mono ?_
  rintro e w1 ⟨rfl, hb1⟩
  go_wp2_with fail
  go_loopw [6, 7, 8] (fun v l i wx => ∃ (k : Nat) (al : Option Addr) (cl : Nat), k ≤ len ∧ i = .int .i64 (k : Int) ∧ OwnB wx w.heap.size 5 v (rows ((ss.take k).map frS)) ∧ l = .slice al k cl ∧ OwnF wx w.heap.size (.slice al k cl) (tsS (ss.take k)) ∧ Below w.heap.size w wx)
    (fun _ _ i _ => len - (intOf i).toNat)
  case atStart => exact ⟨0, none, 0, by omega, rfl, OwnB.nil_ _ _ _, rfl, OwnF.nil_ _ _, hb1⟩
  case round =>
    obtain ⟨k, al, cl, hk, rfl, hov, rfl, hol, hB⟩ := hrel
    by_cases hlt : k < len
    · obtain ⟨b, o, rfl, hb, hc⟩ := hs.at_ (by omega)
      have c1 := (hB.cell (p := ⟨b, o + k, none⟩) hb).trans (hc k hlt)
      have hcb := hs.lt hlt
      have htk : ss.take (k + 1) = ss.take k ++ [ss.getD k 0] := by
        rw [List.take_succ_eq_append_getElem (by omega), List.getD_eq_getElem?_getD, List.getElem?_eq_getElem (by omega)]; rfl
      generalize ss.getD k 0 = c at c1 hcb htk
      obtain ⟨d, hd⟩ : ∃ d, d = c % 6 := ⟨_, rfl⟩
      have hmod : (c : Int) % 6 = (d : Int) := by omega
      have hd6 : d < 6 := by omega
      have hfr : frS c = ⟨3, (d : Int), []⟩ := by rw [hd]; rfl
      have HF := Lib.hid (And.intro hfr (And.intro (put_frS c) (frS_right c)))
      rw [hfr] at HF
      have hlen0 : (tsS (ss.take k)).length = k := by simp [tsS]; omega
      have hrl := rows_le (ss.take k)
      rw [List.length_take, Nat.min_eq_left (by omega)] at hrl
      have hO : Hid (∀ o1 o2, OwnF ((wr.alloc o1).alloc o2) w.heap.size (.slice al k cl) (tsS (ss.take k))) := fun o1 o2 => hol.below (((Below.refl _ _).alloc (Nat.le_refl _) _).alloc (by simp) _)
      have htk' : ss.take (k + 1) = ss.take k ++ [c] ∧ frS c = ⟨3, (d : Int), []⟩ := ⟨htk, hfr⟩
      have HT := Lib.hid htk'
      have HH := Lib.hid (And.intro hov (And.intro hol hB))
      have hwl := hB.size
      clear hc htk htk' hov hol hB hd hfr
      have hnl : ∀ q, (Value.slice al k cl).ownBlock = some q → q < wr.heap.size := fun q hq => (HH.out.2.1.at_base hq).2
      have PU : Hid (∀ w', Calls Try.prog 16 #[.agg #[.int .i64 3, .int .i64 (d : Int), .slice none 0 0]] w' fun e w'' => ∃ v, e = .returned v ∧ OwnB w'' w'.heap.size 5 v (put ⟨3, (d : Int), []⟩) ∧ Below w'.heap.size w' w'') := fun w' => put_any ⟨3, (d : Int), []⟩ none 0 w' Sl.nil_
      go_wp2_with (at_builtin; refine wpList_append_fr rfl (.tmp 31) (.tmp 33) rfl w.heap.size (.slice al k cl) (tsS (ss.take k)) rfl (wr.heap.size + 1) (⟨3, (d : Int), []⟩, none, 0) (by first | rfl | simp) (hO.out _ _) (heap_alloc2_new _ _ _) Sl.nil_ (fun h => absurd h (by simp)) (by omega) (by simp; omega) ?_; intro v3 w3 ho3 hg3 hat3; have hx3 := (hg3.block wr.heap.size (by simp; omega) (fun h => by have := hnl _ h.symm; omega)).trans (heap_alloc2_old wr _ _); have y0 := (cell_of_row w3 _ 0 _ _ _ hx3).trans rfl; have y1 := (cell_of_row w3 _ 1 _ _ _ hx3).trans rfl; have y2 := (cell_of_row w3 _ 2 _ _ _ hx3).trans rfl)
      have hov3 : OwnB w3 w.heap.size 5 u6 (rows ((ss.take k).map frS)) := World.ownsRow.kept ((HH.out.1.alloc (.cells #[.int .i64 3, .int .i64 (d : Int), .slice none 0 0] 24)).alloc (.cells #[.int .i64 3, .int .i64 (d : Int), .slice none 0 0] 24)) hg3 (own_apart HH.out.1 HH.out.2.1)
      have hB3 : Below w.heap.size w w3 := ((HH.out.2.2.alloc hwl _).alloc (by simp; omega) _).grown hg3 (by simp; omega) (fun q hq => (HH.out.2.1.at_base hq).1)
      obtain ⟨a3, c3, hv3, _⟩ := ho3.frs
      subst hv3
      have H3 := Lib.hid (And.intro hov3 (And.intro ho3 hB3))
      clear hov3 ho3 hB3 hg3 hat3 hx3 hO
      refine (PU.out w3).mono ?_
      rintro e w4 ⟨vp, rfl, hop, hb4⟩
      rw [HF.out.2.1] at hop
      obtain ⟨ap, cp, hvp, hsp⟩ := hop.sl (raw_byte _ (by simp))
      rw [raw_len] at hvp hsp
      subst hvp
      have hov4 := H3.out.1.below hb4
      have hol4 := H3.out.2.1.below hb4
      have hB4 := H3.out.2.2.trans (hb4.mono H3.out.2.2.size)
      have H4 := Lib.hid (And.intro hol4 hB4)
      have hsz4 := hB4.size
      have hap := own_apart' hov4 hol4
      clear hop hb4 H3 hol4 hB4 y0 y1 y2
      go_wp2_with (at_builtin; refine wpList_append_sl rfl (.tmp 35) (.tmp 37) _ rfl w.heap.size _ Try.underlying22 info_u8 u6 (rows ((ss.take k).map frS)) rfl hov4 _ ap 11 cp (raw ⟨3, (d : Int), []⟩) rfl hsp (by omega) hsz4 ?_; intro v5 w5 ho5 hg5 hat5)
      have hol5 := H4.out.1.kept hg5 hap (fun t ht hp => by
        rcases List.mem_append.1 ht with h | h
        · have := tsS_body _ t h; rw [this] at hp; simp at hp
        · simp at h; subst h; simp at hp)
      have hB5 := H4.out.2.grown hg5 hsz4 (fun q hq => (hov4.at_base hq).1)
      have H5 := Lib.hid (And.intro ho5 (And.intro hol5 hB5))
      clear ho5 hol5 hB5 hg5 hat5 hov4 hap H4 hsp
      go_wp2
      refine ⟨⟨k + 1, a3, c3, by omega, by go_num, ?_, ?_, ?_, H5.out.2.2⟩, by simp [intOf]; omega⟩
      · rw [HT.out.1, List.map_append, List.map_cons, List.map_nil, HT.out.2, rows_snoc]; exact H5.out.1
      · simp
      · have h := H5.out.2.1
        have e : tsS (ss.take (k + 1)) = tsS (ss.take k) ++ [(⟨3, (d : Int), []⟩, none, 0)] := by rw [HT.out.1]; simp [tsS, HT.out.2]
        rw [e]
        have e2 : (tsS (ss.take k) ++ [((⟨3, (d : Int), []⟩, none, 0) : FC)]).length = k + 1 := by rw [List.length_append, hlen0]; rfl
        rw [e2] at h
        exact h
    · have hk' : k = len := by omega
      subst hk'
      rw [List.take_of_length_le (by omega)] at hov hol
      have hb6 : ∀ x ∈ rows (ss.map frS), x < 256 := rows_byte _ (by intro f hf; obtain ⟨c, _, rfl⟩ := List.mem_map.1 hf; simp [frS])
      obtain ⟨av, cv, hvv, hsv⟩ := hov.sl hb6
      have hrl := rows_le ss
      rw [hsl] at hrl
      rw [hrl] at hvv hsv
      subst hvv
      obtain ⟨al', cl', hvl, hfl⟩ := hol.frs
      have hlt0 : (tsS ss).length = k := by simp [tsS]; exact hsl
      rw [hlt0] at hvl hfl
      have e1 : al' = al := by injection hvl with h1 h2 h3; exact h1.symm
      have e2 : cl' = cl := by injection hvl with h1 h2 h3; exact h3.symm
      subst e1 e2
      rw [tsS_fst] at hfl
      have HL := Lib.hid hfl
      have HV := Lib.hid hsv
      have HB := Lib.hid hB
      obtain ⟨g0, hg0⟩ : ∃ g, g = f0 % 6 := ⟨_, rfl⟩
      have hmod : (f0 : Int) % 6 = (g0 : Int) := by omega
      have hg6 : g0 < 6 := by omega
      have hfle := hfl.le
      clear hov hol hfl hsv hB hg0 hvl hlt0
      go_wp2_with fail
      go_loop [10] (fun i => ∃ n : Nat, n ≤ k ∧ i = .int .i64 (n : Int) ∧ (∀ (j : Nat) (f : Fr), j < n → (ss.map frS)[j]? = some f → f.seq = (g0 : Int) + (j : Int))) (fun i => k - (intOf i).toNat)
      case atStart => exact ⟨0, by omega, rfl, fun j f hj => by omega⟩
      case round =>
        obtain ⟨n, hn, rfl, hpre⟩ := hrel
        by_cases hlt2 : n < k
        · have hf : (ss.map frS)[n]? = some (frS ss[n]) := by rw [List.getElem?_map, List.getElem?_eq_getElem (by omega)]; rfl
          obtain ⟨b, o, e0, hbb, hcc⟩ := HL.out.at_ (by omega)
          subst e0
          obtain ⟨_, _, z0, z1, z2, _⟩ := hcc n _ hf
          have hq : (frS ss[n]).seq = ((ss[n] % 6 : Nat) : Int) := rfl
          rw [hq] at z1
          obtain ⟨d, hd⟩ : ∃ d, d = ss[n] % 6 := ⟨_, rfl⟩
          rw [← hd] at z1 hq
          have hd6 : d < 6 := by omega
          have i1 : (n : Int) < (k : Int) := by omega
          clear hd hcc z0 z2
          by_cases hqe : d = g0 + n
          · have r1 : ((d : Int) == (g0 : Int) + (n : Int)) = true := by simp; omega
            have HP : Hid (∀ (j : Nat) (f : Fr), j < n + 1 → (ss.map frS)[j]? = some f → f.seq = (g0 : Int) + (j : Int)) := fun j f hj h => by
              by_cases e : j = n
              · subst e; rw [hf] at h; injection h with h; subst h; rw [hq]; omega
              · exact hpre j f (by omega) h
            clear hpre hf hq
            go_wp2
            exact ⟨⟨n + 1, by omega, by go_num, HP.out⟩, by simp [intOf]; omega⟩
          · have r1 : ((d : Int) == (g0 : Int) + (n : Int)) = false := by simp; omega
            have HP : Hid (scan (rows (ss.map frS)) (g0 : Int) = ((ss.map frS).take n, ends (ss.map frS) n)) := scan_rows _ _ _ (by intro f hf; obtain ⟨c, _, rfl⟩ := List.mem_map.1 hf; exact frS_right c) (by simp; omega) hpre (fun f h => by rw [hf] at h; injection h with h; subst h; rw [hq]; omega)
            clear hpre hf hq
            go_wp2_with fail
            refine (scan_of HP.out av (11 * k) cv wr HV.out (by omega) (by omega) (by omega)).mono ?_
            rintro e w7 ⟨xa, xc, rfl, hfx, hb7⟩
            have hen : ends (ss.map frS) n = 11 * n := ends_frS ss n (by omega)
            have htl : ((ss.map frS).take n).length = n := by rw [List.length_take, List.length_map]; omega
            rw [hen, htl]
            rw [htl] at hfx
            have hfl7 := ((HL.out.below hb7 (Nat.le_refl _)).more hb7.size).take (k := n) (by omega)
            have cf := run_cut_fr (some ⟨b, o, none⟩) k cl' n (by omega)
            have HS7 := Lib.hid (And.intro hfx hfl7)
            have HB7 := Lib.hid (HB.out.trans (hb7.mono HB.out.size))
            clear hfx hfl7 hb7
            go_wp2_with fail
            refine (same_any xa n xc _ (some ⟨b, o, none⟩) n cl' _ w7 HS7.out.1 HS7.out.2).mono ?_
            rintro e w8 ⟨rfl, hb8⟩
            try rw [decide_eq_true rfl]
            go_wp2
            go_ret
            exact ⟨by simp, HB7.out.trans (hb8.mono HB7.out.size)⟩
        · have HP : Hid (scan (rows (ss.map frS)) (g0 : Int) = ((ss.map frS).take n, ends (ss.map frS) n)) := scan_rows _ _ _ (by intro f hf; obtain ⟨c, _, rfl⟩ := List.mem_map.1 hf; exact frS_right c) (by simp; omega) hpre (fun f h => by rw [List.getElem?_eq_none (by simp; omega)] at h; cases h)
          clear hpre
          go_wp2_with fail
          refine (scan_of HP.out av (11 * k) cv wr HV.out (by omega) (by omega) (by omega)).mono ?_
          rintro e w7 ⟨xa, xc, rfl, hfx, hb7⟩
          have hen : ends (ss.map frS) n = 11 * n := ends_frS ss n (by omega)
          have htl : ((ss.map frS).take n).length = n := by rw [List.length_take, List.length_map]; omega
          rw [hen, htl]
          rw [htl] at hfx
          have hfl7 := ((HL.out.below hb7 (Nat.le_refl _)).more hb7.size).take (k := n) (by omega)
          have cf := run_cut_fr al' k cl' n (by omega)
          have HS7 := Lib.hid (And.intro hfx hfl7)
          have HB7 := Lib.hid (HB.out.trans (hb7.mono HB.out.size))
          clear hfx hfl7 hb7
          go_wp2_with fail
          refine (same_any xa n xc _ al' n cl' _ w7 HS7.out.1 HS7.out.2).mono ?_
          rintro e w8 ⟨rfl, hb8⟩
          try rw [decide_eq_true rfl]
          go_wp2
          go_ret
          exact ⟨by simp, HB7.out.trans (hb8.mono HB7.out.size)⟩

theorem frameRow_walk (a : Option Addr) (len cap : Nat) (ss : List Nat) (f0 : Nat) (hf0 : f0 < 256) (w : World) (hs : Sl w w.heap.size a len cap ss) :
    Calls Try.prog 7 #[.slice a len cap, .int .u8 (f0 : Int)] w fun e w' => e = .returned (.bool true) ∧ Below w.heap.size w w' := by
  by_cases h60 : len ≤ 60
  · exact frameRow_in a len cap ss f0 hf0 w hs h60
  · have h60' : (60 : Int) < (len : Int) := by omega
    go_enter Try.func7, Try.ntmps7
    go_wp2_with fail
    refine (head_any _).mono ?_
    rintro e w1 ⟨rfl, hb1⟩
    go_wp2
    go_ret
    exact ⟨rfl, hb1⟩
end Go.Proofs.Ytdabeelplblgdaa
