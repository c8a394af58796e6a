/- FrameCuts: the walk. -/
import Derived.Test.YtdabeelplblgdaaFrameRowW
import Derived.Test.YtdabeelplblgdaaOpen
namespace Go.Proofs.Ytdabeelplblgdaa
open Go.RowKit
open Crc Frm

def frC (first i : Nat) (bs : List Nat) : Fr := ⟨((1 + i % 15 : Nat) : Int), ((first + i : Nat) : Int), bs.take 900⟩
def fsC (first : Nat) (bss : List (List Nat)) (k : Nat) : List Fr := (List.range k).map fun i => frC first i (bss.getD i [])
theorem fsC_succ (first : Nat) (bss : List (List Nat)) (k : Nat) : fsC first bss (k + 1) = fsC first bss k ++ [frC first k (bss.getD k [])] := by simp [fsC, List.range_succ]
theorem fsC_len (first : Nat) (bss : List (List Nat)) (k : Nat) : (fsC first bss k).length = k := by simp [fsC]
theorem fsC_get (first : Nat) (bss : List (List Nat)) (k i : Nat) (f : Fr) (h : (fsC first bss k)[i]? = some f) : f = frC first i (bss.getD i []) := by
  unfold fsC at h
  rw [List.getElem?_map] at h
  obtain ⟨j, hj, rfl⟩ := Option.map_eq_some_iff.1 h
  have hl := (List.getElem?_eq_some_iff.1 hj).1
  rw [List.length_range] at hl
  rw [List.getElem?_range hl] at hj
  injection hj with hj
  subst hj
  rfl
theorem frC_right (first i : Nat) (bs : List Nat) (h : first + i ≤ 1073741824) : (frC first i bs).right := by
  have := Nat.mod_lt i (show 0 < 15 by decide)
  have h2 : (bs.take 900).length ≤ 900 := by rw [List.length_take]; omega
  unfold frC Fr.right
  simp only
  omega
theorem rows_fsC_le (first : Nat) (bss : List (List Nat)) : ∀ k, (rows (fsC first bss k)).length ≤ 911 * k := by
  intro k
  induction k with
  | zero => simp [fsC, rows]
  | succ k ih =>
    rw [fsC_succ, rows_snoc, List.length_append, raw_len]
    have h2 : (frC first k (bss.getD k [])).body.length ≤ 900 := by show (List.take 900 _).length ≤ 900; rw [List.length_take]; omega
    omega

set_option maxRecDepth 100000 in
set_option maxHeartbeats 3200000 in
theorem frameCuts_in (a : Option Addr) (len cap : Nat) (bss : List (List Nat)) (f0 at' : Nat) (hf0 : f0 < 65536) (hat : at' < 65536) (w : World) (hs : Sls w w.heap.size a len cap bss) (h20 : len ≤ 20) :
    Calls Try.prog 5 #[.slice a len cap, .int .u16 (f0 : Int), .int .u16 (at' : Int)] w fun e w' => e = .returned (.bool true) ∧ Below w.heap.size w w' := by
  have hle := hs.le
  have hsl := hs.length
  have hmx := hs.max
  unfold maxLen at hmx
  have h20' : (len : Int) ≤ 20 := by omega
  go_enter Try.func5, Try.ntmps5
  go_wp2_with fail
  refine (head_any _).mono ?_
  rintro e w1 ⟨rfl, hb1⟩
  go_wp2_with fail
  go_loopw [8, 9, 10] (fun v l i wx => ∃ (k : Nat) (al : Option Addr) (cl : Nat) (ts : List FC), k ≤ len ∧ i = .int .i64 (k : Int) ∧ OwnB wx w.heap.size 5 v (rows (fsC f0 bss k)) ∧ l = .slice al k cl ∧ ts.length = k ∧ ts.map (·.1) = fsC f0 bss k ∧ OwnF wx w.heap.size (.slice al k cl) ts ∧
      (∀ t ∈ ts, 0 < t.1.body.length → ∀ b o, t.2.1 = some ⟨b, o, none⟩ → b < w.heap.size) ∧ Below w.heap.size w wx)
    (fun _ _ i _ => len - (intOf i).toNat)
  case atStart => exact ⟨0, none, 0, [], by omega, rfl, OwnB.nil_ _ _ _, rfl, rfl, rfl, OwnF.nil_ _ _, by simp, hb1⟩
  case round =>
    obtain ⟨k, al, cl, ts, hk, rfl, hov, rfl, htl, hts, hol, hbd, hB⟩ := hrel
    by_cases hlt : k < len
    · obtain ⟨b, o, rfl, hb, hc⟩ := hs.at_ (by omega)
      obtain ⟨ba, bc, c0, hsb⟩ := hc k bss[k] (List.getElem?_eq_getElem (by omega))
      have hfs := fsC_succ f0 bss k
      rw [show bss.getD k [] = bss[k] from by rw [List.getD_eq_getElem?_getD, List.getElem?_eq_getElem (by omega)]; rfl] at hfs
      generalize bss[k] = bs at c0 hsb hfs
      have c1 := (hB.cell (p := ⟨b, o + k, none⟩) hb).trans c0
      obtain ⟨lb, hlb⟩ : ∃ l, l = bs.length := ⟨_, rfl⟩
      rw [← hlb] at c0 c1 hsb
      obtain ⟨m, hm⟩ : ∃ m, m = min lb 900 := ⟨_, rfl⟩
      have hmin : ∀ w, (Builtin.min_ #[3, 3] 3 #[.int .i64 (lb : Int), .int .i64 900]).run Try.prog w = .ok (.int .i64 (m : Int)) w := by rw [hm]; exact min2_any lb 900
      have hmb : m ≤ bc := by have := hsb.le; omega
      have cut := run_cut_to (P := Try.prog) 22 5 Try.underlying22 info_u8 ba lb bc m hmb
      have hsm := hsb.take (k := m) (by omega)
      have hbt : bs.take m = (frC f0 k bs).body := by
        show bs.take m = bs.take 900
        rw [hm]
        by_cases h : lb ≤ 900
        · rw [Nat.min_eq_left h, List.take_of_length_le (by omega), List.take_of_length_le (by omega)]
        · rw [Nat.min_eq_right (by omega)]
      have hbl : (frC f0 k bs).body.length = m := by rw [← hbt, List.length_take]; omega
      obtain ⟨d, hd⟩ : ∃ d, d = 1 + k % 15 := ⟨_, rfl⟩
      obtain ⟨q, hq⟩ : ∃ q, q = f0 + k := ⟨_, rfl⟩
      have hw1 : IntKind.i64.wrap (1 + (k : Int).tmod 15) = (d : Int) := by
        have e : (k : Int).tmod 15 = ((k % 15 : Nat) : Int) := rfl
        rw [e, IntKind.wrap_i64]; omega
      have hw2 : IntKind.i64.wrap (f0 : Int) = (f0 : Int) := by rw [IntKind.wrap_i64]; omega
      have hw3 : IntKind.i64.wrap ((f0 : Int) + (k : Int)) = (q : Int) := by rw [IntKind.wrap_i64]; omega
      have hty : (frC f0 k bs).ty = (d : Int) := by rw [hd]; rfl
      have hsq : (frC f0 k bs).seq = (q : Int) := by rw [hq]; rfl
      have hFr : (frC f0 k bs).right := frC_right f0 k bs (by omega)
      have hblk : Hid (∀ o1, ((wr.alloc o1).alloc (.cells #[.int .i64 (d : Int), .int .i64 (q : Int), .slice ba m bc] 24)).drew.heap[wr.heap.size + 1]? = some (.cells #[.int .i64 (frC f0 k bs).ty, .int .i64 (frC f0 k bs).seq, .slice ba (frC f0 k bs).body.length bc] 24 (0, 0))) := fun o1 => by
        rw [hty, hsq, hbl]; exact heap_alloc2_new wr o1 _
      have hO : Hid (∀ o1 o2, OwnF ((wr.alloc o1).alloc o2).drew w.heap.size (.slice al k cl) ts) := fun o1 o2 => hol.below ((((Below.refl _ _).alloc (Nat.le_refl _) _).alloc (by simp) _).drew)
      have hsb1 : Sl wr wr.heap.size ba (frC f0 k bs).body.length bc (frC f0 k bs).body := by
        rw [hbl, ← hbt]; exact (hsm.below hB (Nat.le_refl _)).more hB.size
      have hSb : Hid (∀ o1 o2, Sl ((wr.alloc o1).alloc o2).drew ((wr.alloc o1).alloc o2).drew.heap.size ba (frC f0 k bs).body.length bc (frC f0 k bs).body) := fun o1 o2 => ((hsb1.below (((Below.refl _ _).alloc (Nat.le_refl _) _).alloc (by simp) _) (Nat.le_refl _)).more (by simp; omega)).drew
      have hbdk : Hid (0 < (frC f0 k bs).body.length → ∀ b o, ba = some ⟨b, o, none⟩ → b < w.heap.size) := fun hp b' o' e => by
        rw [hbl] at hp
        obtain ⟨b2, o2, e2, hlt2, _⟩ := hsm.at_ hp
        rw [e] at e2
        injection e2 with e2
        injection e2 with e2
        omega
      have PU : Hid (∀ w', Sl w' w'.heap.size ba m bc (frC f0 k bs).body → Calls Try.prog 16 #[.agg #[.int .i64 (d : Int), .int .i64 (q : Int), .slice ba m bc]] w' fun e w'' => ∃ v, e = .returned v ∧ OwnB w'' w'.heap.size 5 v (raw (frC f0 k bs)) ∧ Below w'.heap.size w' w'') := fun w' h => by
        have := put_any (frC f0 k bs) ba bc w' (by rw [hbl]; exact h)
        rw [hty, hsq, hbl] at this
        unfold put at this
        rw [if_pos hFr] at this
        exact this
      have hSm : Hid (Sl w w.heap.size ba m bc (frC f0 k bs).body) := by show Sl _ _ _ _ _ _; rw [← hbt]; exact hsm
      have hraw := raw_len (frC f0 k bs)
      rw [hbl] at hraw
      have Hraw := Lib.hid hraw
      have hbb := raw_byte (frC f0 k bs) (by have := hsb1.byte; exact this)
      have Hbb := Lib.hid hbb
      have hrl := rows_fsC_le f0 bss k
      have hwl := hB.size
      clear hsb1 hty hsq hbb hraw
      have HQ := Lib.hid (And.intro hd (And.intro hq (And.intro hm hlb)))
      have hd15 : d ≤ 15 := by omega
      have hq6 : q ≤ 65555 := by omega
      have hm9 : m ≤ 900 := by omega
      have HB := Lib.hid (And.intro hov (And.intro hol (And.intro hB (And.intro hts hfs))))
      have HC := Lib.hid (And.intro hbt (And.intro hbl hsm))
      have HD := Lib.hid hbd
      have S0 : (wr.drew).cell? ⟨b, o + k, none⟩ = some (.slice ba lb bc) := c1
      clear hd hq hm hlb hov hol hB hts hfs hbt hbl hsm hbd hc c0 hsb
      go_wp2_with fail
      go_region_held3 (fun w' => w'.cell? ⟨b, o + k, none⟩ = some (.slice ba lb bc)) (first | exact S0 | exact c1 | go_keep) (fail)
      all_goals
        have hnl : ∀ z, (Value.slice al k cl).ownBlock = some z → z < wr.heap.size := fun z hz => (HB.out.2.1.at_base hz).2
        have hbn : 0 < (frC f0 k bs).body.length → ∀ b o, ba = some ⟨b, o, none⟩ → some b ≠ (Value.slice al k cl).ownBlock := fun hp b' o' e h => by
          have h1 := hbdk.out hp b' o' e
          have h2 := (HB.out.2.1.at_base h.symm).1
          omega
        go_wp2_with (at_builtin; refine wpList_append_fr rfl (.tmp 49) (.tmp 51) rfl w.heap.size (.slice al k cl) ts rfl (wr.heap.size + 1) (frC f0 k bs, ba, bc) (by first | rfl | simp) (hO.out _ _) (hblk.out _) (hSb.out _ _) hbn (by omega) (by simp; omega) ?_; intro v3 w3 ho3 hg3 hat3; have hx3 := (hg3.block wr.heap.size (by simp; omega) (fun h => by have := hnl _ h.symm; omega)).trans (heap_alloc2_old wr _ _); have y0 := (cell_of_row w3 _ 0 _ _ _ hx3).trans rfl; have y1 := (cell_of_row w3 _ 1 _ _ _ hx3).trans rfl; have y2 := (cell_of_row w3 _ 2 _ _ _ hx3).trans rfl)
        have hov3 : OwnB w3 w.heap.size 5 u8 (rows (fsC f0 bss k)) := World.ownsRow.kept (OwnB.drew ((HB.out.1.alloc (.cells #[.int .i64 (d : Int), .int .i64 (q : Int), .slice ba m bc] 24)).alloc (.cells #[.int .i64 (d : Int), .int .i64 (q : Int), .slice ba m bc] 24))) hg3 (own_apart HB.out.1 HB.out.2.1)
        have hB3 : Below w.heap.size w w3 := (((HB.out.2.2.1.alloc hwl _).alloc (by simp; omega) _).drew).grown hg3 (by simp; omega) (fun z hz => (HB.out.2.1.at_base hz).1)
        obtain ⟨a3, c3, hv3, _⟩ := ho3.frs
        subst hv3
        have H3 := Lib.hid (And.intro hov3 (And.intro ho3 hB3))
        clear hov3 ho3 hB3 hg3 hat3 hx3 hO
        refine (PU.out w3 ((hSm.out.below H3.out.2.2 (Nat.le_refl _)).more H3.out.2.2.size)).mono ?_
        rintro e w4 ⟨vp, rfl, hop, hb4⟩
        obtain ⟨ap, cp, hvp, hsp⟩ := hop.sl Hbb.out
        rw [Hraw.out] at hvp hsp
        subst hvp
        have hov4 := H3.out.1.below hb4
        have hol4 := H3.out.2.1.below hb4
        have hB4 := H3.out.2.2.trans (hb4.mono H3.out.2.2.size)
        have H4 := Lib.hid (And.intro hol4 hB4)
        have hsz4 := hB4.size
        have hap := own_apart' hov4 hol4
        clear hop hb4 H3 hol4 hB4 y0 y1 y2
        go_wp2_with (at_builtin; refine wpList_append_sl rfl (.tmp 53) (.tmp 55) _ rfl w.heap.size _ Try.underlying22 info_u8 u8 (rows (fsC f0 bss k)) rfl hov4 _ ap (m + 11) cp (raw (frC f0 k bs)) rfl hsp (by omega) hsz4 ?_; intro v5 w5 ho5 hg5 hat5)
        have hbd5 : ∀ t ∈ ts ++ [(frC f0 k bs, ba, bc)], 0 < t.1.body.length → ∀ b o, t.2.1 = some ⟨b, o, none⟩ → b < w.heap.size := fun t ht => by
          rcases List.mem_append.1 ht with h | h
          · exact HD.out t h
          · simp at h; subst h; exact hbdk.out
        have hol5 := H4.out.1.kept hg5 hap (fun t ht hp b' o' e h => by
          have h1 := hbd5 t ht hp b' o' e
          have h2 := (hov4.at_base h.symm).1
          omega)
        have hB5 := H4.out.2.grown hg5 hsz4 (fun z hz => (hov4.at_base hz).1)
        have H5 := Lib.hid (And.intro ho5 (And.intro hol5 (And.intro hB5 hbd5)))
        clear ho5 hol5 hB5 hg5 hat5 hov4 hap H4 hsp hbd5
        go_wp2
        obtain ⟨_, _, _, hts, hfs⟩ := HB.out
        refine ⟨⟨k + 1, a3, c3, ts ++ [(frC f0 k bs, ba, bc)], by omega, by go_num, ?_, rfl, by rw [List.length_append, htl]; rfl, ?_, ?_, H5.out.2.2.2, H5.out.2.2.1⟩, by simp [intOf]; omega⟩
        · rw [hfs, rows_snoc]; exact H5.out.1
        · rw [List.map_append, hts, hfs]; rfl
        · have h := H5.out.2.1
          have e2 : (ts ++ [((frC f0 k bs, ba, bc) : FC)]).length = k + 1 := by rw [List.length_append, htl]; rfl
          rw [e2] at h
          exact h
    · have hk' : k = len := by omega
      subst hk'
      have hbody : ∀ t ∈ ts, ∀ c ∈ t.1.body, c < 256 := fun t ht => (hol.bodies t ht).1.byte
      have hb6 : ∀ x ∈ rows (fsC f0 bss k), x < 256 := rows_byte _ (fun f hf => by
        rw [← hts] at hf
        obtain ⟨t, ht, rfl⟩ := List.mem_map.1 hf
        exact hbody t ht)
      obtain ⟨av, cv, hvv, hsv⟩ := hov.sl hb6
      have hrl := rows_fsC_le f0 bss k
      obtain ⟨LA, hLA⟩ : ∃ l, l = (rows (fsC f0 bss k)).length := ⟨_, rfl⟩
      rw [← hLA] at hvv hsv hrl
      subst hvv
      obtain ⟨al', cl', hvl, hfl⟩ := hol.frs
      rw [htl] at hvl hfl
      have e1 : al' = al := by injection hvl with h1 h2 h3; exact h1.symm
      have e2 : cl' = cl := by injection hvl with h1 h2 h3; exact h3.symm
      subst e1 e2
      rw [hts] at hfl
      have HL := Lib.hid hfl
      have HV := Lib.hid hsv
      have HB := Lib.hid hB
      have HFL : Hid ((fsC f0 bss k).length = k) := fsC_len f0 bss k
      have hright : ∀ f ∈ fsC f0 bss k, f.right := fun f hf => by
        obtain ⟨i, hi, rfl⟩ := List.mem_map.1 hf
        rw [List.mem_range] at hi
        exact frC_right f0 i _ (by omega)
      have hconsec : ∀ (j : Nat) (f : Fr), (fsC f0 bss k)[j]? = some f → f.seq = ((f0 : Nat) : Int) + (j : Int) := fun j f h => by
        rw [fsC_get f0 bss k j f h]
        show ((f0 + j : Nat) : Int) = _
        omega
      have HALL : Hid (scan (rows (fsC f0 bss k)) ((f0 : Nat) : Int) = (fsC f0 bss k, LA)) := by
        show _ = _
        rw [scan_all _ _ hright hconsec, hLA]
      have HRC := Lib.hid (And.intro hright hconsec)
      obtain ⟨kk, hkk⟩ : ∃ x, x = at' % (LA + 1) := ⟨_, rfl⟩
      have hkl : kk ≤ LA := by have := Nat.mod_lt at' (show 0 < LA + 1 by omega); omega
      have hmod : (at' : Int) % ((LA : Int) + 1) = (kk : Int) := by rw [hkk, Int.natCast_emod, Int.natCast_add]; rfl
      have hfle := hfl.le
      have hvle := hsv.le
      have c1 := run_cut_to (P := Try.prog) 22 5 Try.underlying22 info_u8 av LA cv kk (by omega)
      have S1 := Lib.hid (hsv.take hkl)
      have HLA := Lib.hid hLA
      clear hov hol hfl hsv hB hvl hkk hbody hb6 hright hconsec hLA hts hbd
      go_wp2_with fail
      refine (scan_of (fs := (scan ((rows (fsC f0 bss k)).take kk) ((f0 : Nat) : Int)).1) (n := (scan ((rows (fsC f0 bss k)).take kk) ((f0 : Nat) : Int)).2) rfl av kk cv wr S1.out (by omega) (by omega) (by omega)).mono ?_
      rintro e w7 ⟨xa, xc, rfl, hfx, hb7⟩
      have HS := Lib.hid hfx
      have HL7 := Lib.hid ((HL.out.below hb7 (Nat.le_refl _)).more hb7.size)
      have HV7 := Lib.hid ((HV.out.below hb7 (Nat.le_refl _)).more hb7.size)
      have HB7 := Lib.hid (HB.out.trans (hb7.mono HB.out.size))
      clear hfx hb7 HL HV HB
      go_wp2_with fail
      go_loop [15, 16] (fun u e => ∃ n : Nat, n ≤ k ∧ u = .int .i64 (n : Int) ∧ e = .int .i64 ((ends (fsC f0 bss k) n : Nat) : Int) ∧ ends (fsC f0 bss k) n ≤ kk) (fun u _ => k - (intOf u).toNat)
      case atStart => exact ⟨0, by omega, rfl, rfl, by simp [ends, rows]⟩
      case round =>
        obtain ⟨n, hn, rfl, rfl, hen⟩ := hrel
        by_cases hlt2 : n < k
        · obtain ⟨b, o, e0, hbb, hcc⟩ := HL7.out.at_ (by omega)
          subst e0
          obtain ⟨fn, hfn⟩ : ∃ f, (fsC f0 bss k)[n]? = some f := ⟨_, List.getElem?_eq_getElem (by have := HFL.out; omega)⟩
          obtain ⟨_, _, z0, z1, z2, zs⟩ := hcc n _ hfn
          have hes := ends_succ (fsC f0 bss k) n fn hfn
          obtain ⟨E, hE⟩ : ∃ E, E = ends (fsC f0 bss k) n := ⟨_, rfl⟩
          rw [← hE] at hes hen ⊢
          have hbl : fn.body.length ≤ 1800 := (HRC.out.1 fn (List.mem_of_getElem? hfn)).2.2.2.2
          have i1 : (n : Int) < (k : Int) := by omega
          by_cases hle2 : E + 11 + fn.body.length ≤ kk
          · have hle3 : (E : Int) + 11 + ((fn.body.length : Nat) : Int) ≤ (kk : Int) := by omega
            have HE := Lib.hid hes
            clear hcc z0 z1 zs hes hE hfn
            go_wp2
            exact ⟨⟨n + 1, by omega, by go_num, by rw [HE.out]; go_num, by rw [HE.out]; omega⟩, by simp [intOf]; omega⟩
          · have hle3 : ¬ ((E : Int) + 11 + ((fn.body.length : Nat) : Int) ≤ (kk : Int)) := by omega
            have hle4 : (kk : Int) < (E : Int) + 11 + ((fn.body.length : Nat) : Int) := by omega
            have HCUT : Hid (scan ((rows (fsC f0 bss k)).take kk) ((f0 : Nat) : Int) = ((fsC f0 bss k).take n, E)) := by
              show _ = _
              rw [hE]
              exact scan_cut _ _ kk n HRC.out.1 HRC.out.2 (by rw [HFL.out]; omega) (by rw [← hE]; omega) (fun f h => by rw [hfn] at h; injection h with h; subst h; rw [← hE]; omega)
            clear hcc z0 z1 zs hes hE hfn
            go_wp2_with fail
            refine (scan_of HALL.out av LA cv w7 HV7.out (by omega) (by omega) (by omega)).mono ?_
            rintro e w8 ⟨ya, yc, rfl, hfy, hb8⟩
            rw [HFL.out] at hfy ⊢
            have hx1 := HS.out
            rw [HCUT.out] at hx1
            have hSx := Lib.hid ((hx1.below hb8 (Nat.le_refl _)).more hb8.size)
            rw [HCUT.out]
            have hSl := Lib.hid ((HL7.out.below hb8 (Nat.le_refl _)).more hb8.size)
            have hSy := Lib.hid hfy
            have HB8 := Lib.hid (HB7.out.trans (hb8.mono HB7.out.size))
            have htn : ((fsC f0 bss k).take n).length = n := by rw [List.length_take, HFL.out]; omega
            rw [htn] at hSx
            have cf := run_cut_fr (some ⟨b, o, none⟩) k cl' n (by omega)
            clear hfy hb8 hx1
            go_wp2_with fail
            refine (same_any xa n xc _ (some ⟨b, o, none⟩) n cl' _ w8 hSx.out (hSl.out.take (by omega))).mono ?_
            rintro e w9 ⟨rfl, hb9⟩
            try rw [decide_eq_true rfl]
            have hSl9 := Lib.hid ((hSl.out.below hb9 (Nat.le_refl _)).more hb9.size)
            have hSy9 := (hSy.out.below hb9 (Nat.le_refl _)).more hb9.size
            have HB9 := Lib.hid (HB8.out.trans (hb9.mono HB8.out.size))
            have hSy9' := Lib.hid hSy9
            clear hb9 hSy9
            go_wp2_with fail
            refine (same_any ya k yc _ (some ⟨b, o, none⟩) k cl' _ w9 hSy9'.out hSl9.out).mono ?_
            rintro e w10 ⟨rfl, hb10⟩
            try rw [decide_eq_true rfl]
            have HB10 := Lib.hid (HB9.out.trans (hb10.mono HB9.out.size))
            clear hb10
            go_wp2
            go_ret
            exact ⟨by simp, HB10.out⟩
        · have hnk : n = k := by omega
          obtain ⟨E, hE⟩ : ∃ E, E = ends (fsC f0 bss k) n := ⟨_, rfl⟩
          rw [← hE] at hen ⊢
          have HCUT : Hid (scan ((rows (fsC f0 bss k)).take kk) ((f0 : Nat) : Int) = ((fsC f0 bss k).take n, E)) := by
            show _ = _
            rw [hE]
            exact scan_cut _ _ kk n HRC.out.1 HRC.out.2 (by rw [HFL.out]; omega) (by rw [← hE]; omega) (fun f h => by rw [List.getElem?_eq_none (by rw [HFL.out]; omega)] at h; cases h)
          have i1 : (k : Int) ≤ (n : Int) := by omega
          clear hE hnk
          go_wp2_with fail
          refine (scan_of HALL.out av LA cv w7 HV7.out (by omega) (by omega) (by omega)).mono ?_
          rintro e w8 ⟨ya, yc, rfl, hfy, hb8⟩
          rw [HFL.out] at hfy ⊢
          have hx1 := HS.out
          rw [HCUT.out] at hx1
          have hSx := Lib.hid ((hx1.below hb8 (Nat.le_refl _)).more hb8.size)
          rw [HCUT.out]
          have hSl := Lib.hid ((HL7.out.below hb8 (Nat.le_refl _)).more hb8.size)
          have hSy := Lib.hid hfy
          have HB8 := Lib.hid (HB7.out.trans (hb8.mono HB7.out.size))
          have htn : ((fsC f0 bss k).take n).length = n := by rw [List.length_take, HFL.out]; omega
          rw [htn] at hSx
          have cf := run_cut_fr al' k cl' n (by omega)
          clear hfy hb8 hx1
          go_wp2_with fail
          refine (same_any xa n xc _ al' n cl' _ w8 hSx.out (hSl.out.take (by omega))).mono ?_
          rintro e w9 ⟨rfl, hb9⟩
          try rw [decide_eq_true rfl]
          have hSl9 := Lib.hid ((hSl.out.below hb9 (Nat.le_refl _)).more hb9.size)
          have hSy9 := (hSy.out.below hb9 (Nat.le_refl _)).more hb9.size
          have HB9 := Lib.hid (HB8.out.trans (hb9.mono HB8.out.size))
          have hSy9' := Lib.hid hSy9
          clear hb9 hSy9
          go_wp2_with fail
          refine (same_any ya k yc _ al' k cl' _ w9 hSy9'.out hSl9.out).mono ?_
          rintro e w10 ⟨rfl, hb10⟩
          try rw [decide_eq_true rfl]
          have HB10 := Lib.hid (HB9.out.trans (hb10.mono HB9.out.size))
          clear hb10
          go_wp2
          go_ret
          exact ⟨by simp, HB10.out⟩

theorem frameCuts_walk (a : Option Addr) (len cap : Nat) (bss : List (List Nat)) (f0 at' : Nat) (hf0 : f0 < 65536) (hat : at' < 65536) (w : World) (hs : Sls w w.heap.size a len cap bss) :
    Calls Try.prog 5 #[.slice a len cap, .int .u16 (f0 : Int), .int .u16 (at' : Int)] w fun e w' => e = .returned (.bool true) ∧ Below w.heap.size w w' := by
  by_cases h20 : len ≤ 20
  · exact frameCuts_in a len cap bss f0 at' hf0 hat w hs h20
  · have h20' : (20 : Int) < (len : Int) := by omega
    go_enter Try.func5, Try.ntmps5
    go_wp2_with fail
    refine (head_any _).mono ?_
    rintro e w1 ⟨rfl, hb1⟩
    go_wp2
    go_ret
    exact ⟨rfl, hb1⟩
end Go.Proofs.Ytdabeelplblgdaa
