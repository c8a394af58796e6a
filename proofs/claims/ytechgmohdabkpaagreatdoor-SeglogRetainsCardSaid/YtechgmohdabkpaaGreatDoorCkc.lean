/- The cells of a row of numbers. Contracts of the program's disk: kept; what Crash leaves. Contracts of the program's disk: Crash. A disk that a call has made: its calls, one behind the other. Arguments that came in, opened: bytes. Arguments that came in, opened: operations of a disk; ints. The statements' operations: a call; are they too much?. Names, held against one another. Plain mathematics of the CRC-32, over natural numbers: no program, no memory. Frames: plain mathematics: bytes of numbers, bytes of frames, what bytes begin with, what they scan to. -/
import Derived.Test.YtechgmohdabkpaaGreatDoorCka
import Derived.Test.YtechgmohdabkpaaGreatDoorCkb
import Derived.StillTailTactics
import Derived.Test.YtechgmohdabkpaaGreatDoorProg
import Derived.Test.YtechgmohdabkpaaGreatDoorChecked
import Derived.Lib.SmallJoins
import Derived.ChangeSlices
import Derived.ProofKit
import Derived.OpenShut
import Derived.Deep.Slices
import Derived.SizedLaws
import Derived.IntWalk
namespace Go.Proofs.YtechgmohdabkpaaGreatDoor
section
set_option linter.unusedSimpArgs false
set_option linter.unusedVariables false
open Go.RowKit

abbrev intsC (ks : List Int) (j : Nat) : Value := .int .i64 (ks.getD j 0)
abbrev i64V (l : List Int) : List Value := l.map fun x => .int .i64 x
end
section
set_option linter.unusedVariables false
set_option linter.unusedSimpArgs false
section
open Go.RowKit Go.Sort
open Go.Maps
attribute [local go_sem] Oper.semAt_some

/-- How many more are kept. -/
def keptV (ks : List Int) (i : Nat) (most : Int) : Int := if i < ks.length then min (max (ks.getD i 0) 0) most else 0
theorem keptV_le (ks : List Int) (i : Nat) {most : Int} (h : 0 ≤ most) : 0 ≤ keptV ks i most ∧ keptV ks i most ≤ most := by unfold keptV; split <;> omega
theorem kept_any (ks : List Int) (a : Option Addr) (n c : Nat) (i : Nat) (most : Int) (B : Nat) (w : World) (hr : Row w B a n c 1 (intsC ks)) (hn : ks.length = n) (hi : i ≤ 9223372036854775807) :
    Calls Tryz.prog 79 #[.slice a n c, .int .i64 (i : Int), .int .i64 most] w fun e w' => e = .returned (.int .i64 (keptV ks i most)) ∧ w = w' := by
  by_cases hlt : i < n
  · obtain ⟨b, o, rfl, _, hc⟩ := hr.at_ (by omega)
    have c1 := hc i (by omega)
    simp only [intsC] at c1
    have hk : Hid (keptV ks i most = min (max (ks.getD i 0) 0) most) := by show _ = _; unfold keptV; rw [if_pos (by omega)]
    have m1 := fun (x : World) => max2_any (ks.getD i 0) 0 x
    have m2 := fun (y : Int) (x : World) => min2i_any y most x
    generalize ks.getD i 0 = z at *
    generalize keptV ks i most = r at *
    clear hc hr hi
    go_enter Tryz.func79, Tryz.ntmps79
    go_wp2
    go_ret
    exact ⟨ret_i64 hk.out.symm, rfl⟩
  · have hk : Hid (keptV ks i most = 0) := by show _ = _; unfold keptV; rw [if_neg (by omega)]
    generalize keptV ks i most = r at *
    clear hr hi
    go_enter Tryz.func79, Tryz.ntmps79
    go_wp2
    go_ret
    exact ⟨ret_i64 hk.out.symm, rfl⟩

/-- What a crash leaves of a file. -/
def crM (ks : List Int) (i : Nat) (f : Fl) : Nat := f.l + (keptV ks i ((f.bs.length : Int) - (f.l : Int))).toNat
def crF (ks : List Int) (i : Nat) (f : Fl) : Fl := ⟨f.bs.take (crM ks i f), crM ks i f⟩
theorem crM_le (ks : List Int) (i : Nat) {f : Fl} (h : f.l ≤ f.bs.length) : f.l ≤ crM ks i f ∧ crM ks i f ≤ f.bs.length := by
  have := keptV_le ks i (most := (f.bs.length : Int) - (f.l : Int)) (by omega)
  unfold crM
  omega
def crD1 (ks : List Int) (i : Nat) : DataW Fl → DataW Fl
  | .held f => .held (crF ks i f)
  | d => d
/-- .. of the first k files. -/
def crE (ks : List Int) (k : Nat) (es : List (Lit × DataW Fl)) : List (Lit × DataW Fl) := es.mapIdx fun i p => if i < k then (p.1, crD1 ks i p.2) else p
def crD (ks : List Int) (k : Nat) : FS → FS
  | .map es => .map (crE ks k es)
  | d => d
theorem crE_keys (ks : List Int) (k : Nat) (es : List (Lit × DataW Fl)) : (crE ks k es).map (·.1) = es.map (·.1) := by
  unfold crE
  apply List.ext_getElem (by simp)
  intro i h1 h2
  simp only [List.getElem_mapIdx, List.getElem_map]
  split <;> rfl
theorem crE_zero (ks : List Int) (es : List (Lit × DataW Fl)) : crE ks 0 es = es := by
  unfold crE
  apply List.ext_getElem (by simp)
  intro i h1 h2
  simp
theorem crD_zero (ks : List Int) (D : FS) : crD ks 0 D = D := by cases D <;> simp [crD, crE_zero]
theorem keysL_crD (ks : List Int) (k : Nat) (D : FS) : keysL (crD ks k D) = keysL D := by cases D <;> simp [crD, keysL, crE_keys]
theorem crE_get (ks : List Int) (k : Nat) (es : List (Lit × DataW Fl)) (j : Nat) : (crE ks k es)[j]? = es[j]?.map fun p => if j < k then (p.1, crD1 ks j p.2) else p := by
  unfold crE
  rw [List.getElem?_mapIdx]
theorem canon_keys {D E : FS} (h : Canon D) (hm : IsMap E) (hk : keysL E = keysL D) : Canon E := by
  obtain ⟨es, rfl, h1, h2⟩ := h
  obtain ⟨es', rfl⟩ := hm
  have hk : es'.map (·.1) = es.map (·.1) := hk
  refine ⟨es', rfl, ?_, fun p hp => ?_⟩
  · have : (es.map (·.1)).Pairwise (fun a b : Lit => a.before b = true) := List.pairwise_map.2 h1
    rw [← hk] at this
    exact List.pairwise_map.1 this
  · have : p.1 ∈ es'.map (·.1) := List.mem_map.2 ⟨p, hp, rfl⟩
    rw [hk] at this
    obtain ⟨q, hq, e⟩ := List.mem_map.1 this
    rw [← e]
    exact h2 q hq
theorem canon_crD (ks : List Int) (k : Nat) {D : FS} (h : Canon D) : Canon (crD ks k D) := by
  refine canon_keys h ?_ (keysL_crD ks k D)
  obtain ⟨es, rfl, _⟩ := h
  exact ⟨_, rfl⟩
/-- The j-th entry is found by its key. -/
theorem look_idx {D : FS} (h : Canon D) {j : Nat} {p : Lit × DataW Fl} {es : List (Lit × DataW Fl)} (hD : D = .map es) (hp : es[j]? = some p) : look D p.1 = some p.2 := by
  subst hD
  obtain ⟨es', e, h1, h2⟩ := h
  injection e with e
  subst e
  have hm : p ∈ es := List.mem_of_getElem? hp
  have h3 : (DataW.map es).atKey p.1 .nil = p.2 := WideAt.atKey_mem .nil (h2 p hm) (apart_of_rising h1) hm
  have h4 : has (.map es) p.1 = true := List.any_eq_true.2 ⟨p, hm, WideAt.sameKey_self (h2 p hm)⟩
  rw [has_look] at h4
  rw [atKey_look] at h3
  obtain ⟨d, hd⟩ := Option.isSome_iff_exists.1 h4
  rw [hd] at h3 ⊢
  rw [← h3]
  rfl
theorem look_crE (ks : List Int) (k : Nat) {es : List (Lit × DataW Fl)} (h : Canon (.map es : FS)) {j : Nat} {q : Lit × DataW Fl} (hq : es[j]? = some q) : look (crD ks k (.map es)) q.1 = some (if j < k then crD1 ks j q.2 else q.2) := by
  have e := crE_get ks k es j
  rw [hq, Option.map_some] at e
  have l := look_idx (canon_crD ks k h) (es := crE ks k es) rfl e
  by_cases hj : j < k
  · simp only [if_pos hj] at l ⊢
    exact l
  · simp only [if_neg hj] at l ⊢
    exact l
/-- What a crash leaves of the j-th name. -/
theorem fat_crD {room : Nat} (ks : List Int) (k : Nat) {D : FS} (h : Good D room) {j : Nat} {s : List UInt8} {f : Fl} (hs : (strKeys D)[j]? = some s) (hf : fat D s = some f) : fat (crD ks k D) s = some (if j < k then crF ks j f else f) := by
  obtain ⟨es, rfl, h1, h2⟩ := h.canon
  have hs : (es.map fun p => Go.strOf p.1)[j]? = some s := hs
  rw [List.getElem?_map] at hs
  obtain ⟨p, hp, e⟩ := Option.map_eq_some_iff.1 hs
  obtain ⟨x, hx⟩ := h.strs p.1 (List.any_eq_true.2 ⟨p, List.mem_of_getElem? hp, WideAt.sameKey_self (h2 p (List.mem_of_getElem? hp))⟩)
  have hxs : x = s := by rw [hx] at e; exact e
  subst hxs
  have l1 := look_idx h.canon rfl hp
  rw [hx, h.look_, hf] at l1
  have hd : p.2 = .held f := by injection l1 with l1; exact l1.symm
  have l2 := look_crE ks k h.canon hp
  rw [hx, hd] at l2
  unfold fat
  rw [l2]
  by_cases hjk : j < k
  · rw [if_pos hjk, if_pos hjk]; rfl
  · rw [if_neg hjk, if_neg hjk]
theorem names_mem {D : FS} {room : Nat} (h : Good D room) (s : List UInt8) : s ∈ strKeys D ↔ (fat D s).isSome = true := by
  rw [strKeys_keysL, List.mem_map, ← h.has_, ← keysL_mem h.canon]
  constructor
  · rintro ⟨k, hk, rfl⟩
    obtain ⟨x, rfl⟩ := h.strs k ((keysL_mem h.canon k).1 hk)
    exact hk
  · intro hk
    exact ⟨_, hk, rfl⟩
theorem names_crD (ks : List Int) (k : Nat) (D : FS) : strKeys (crD ks k D) = strKeys D := by rw [strKeys_keysL, strKeys_keysL, keysL_crD]
theorem crD_succ {room : Nat} (ks : List Int) (k : Nat) {D : FS} (h : Good D room) {s : List UInt8} {f : Fl} (hs : (strKeys D)[k]? = some s) (hf : fat D s = some f) : crD ks (k + 1) D = (crD ks k D).put (.string s) (.held (crF ks k f)) := by
  have hc := canon_crD ks k h.canon
  have hstr : ∀ key, has (crD ks k D) key = true → ∃ l, key = .string l := fun key hk => h.strs key (by rw [← keysL_mem h.canon, ← keysL_crD ks k]; exact (keysL_mem hc key).2 hk)
  refine look_ext (canon_crD ks (k + 1) h.canon) (canon_put hc hstr s _) (fun key => ?_)
  obtain ⟨es, rfl, h1, h2⟩ := h.canon
  have hn : (es.map fun p => Go.strOf p.1)[k]? = some s := hs
  rw [List.getElem?_map] at hn
  obtain ⟨p, hp, e⟩ := Option.map_eq_some_iff.1 hn
  obtain ⟨x, hx⟩ := h.strs p.1 (List.any_eq_true.2 ⟨p, List.mem_of_getElem? hp, WideAt.sameKey_self (h2 p (List.mem_of_getElem? hp))⟩)
  have hxs : x = s := by rw [hx] at e; exact e
  subst hxs
  have l1 := look_idx h.canon rfl hp
  rw [hx, h.look_, hf] at l1
  have hd : p.2 = .held f := by injection l1 with l1; exact l1.symm
  by_cases hk : key = .string x
  · subst hk
    rw [look_put_same (canon_map hc) (isKey_str x)]
    have l2 := look_crE ks (k + 1) h.canon hp
    rw [if_pos (by omega), hx, hd] at l2
    exact l2
  · rw [look_put_other hk]
    cases hl : look (crD ks k (.map es)) key with
    | none =>
      have h5 : has (crD ks (k + 1) (.map es)) key = false := by
        cases hb : has (crD ks (k + 1) (.map es)) key
        · rfl
        · have h6 := (keysL_mem (canon_crD ks (k + 1) h.canon) key).2 hb
          rw [keysL_crD, ← keysL_crD ks k] at h6
          have h7 := (keysL_mem hc key).1 h6
          rw [has_look, hl] at h7
          cases h7
      rw [has_look] at h5
      cases hq : look (crD ks (k + 1) (.map es)) key with
      | none => rfl
      | some _ => rw [hq] at h5; cases h5
    | some d =>
      have h6 : has (crD ks k (.map es)) key = true := by rw [has_look, hl]; rfl
      have h7 := (keysL_mem hc key).2 h6
      rw [keysL_crD] at h7
      obtain ⟨q, hq, e⟩ := List.mem_map.1 (show key ∈ es.map (·.1) from h7)
      obtain ⟨j, hj⟩ := List.getElem?_of_mem hq
      have hjk : j ≠ k := fun e' => by
        subst e'
        rw [hp] at hj
        injection hj with hj
        subst hj
        exact hk (e.symm.trans hx)
      have a1 := look_crE ks k h.canon hj
      have a2 := look_crE ks (k + 1) h.canon hj
      rw [e] at a1 a2
      rw [a2, ← hl, a1]
      by_cases hlt : j < k
      · rw [if_pos hlt, if_pos (by omega)]
      · rw [if_neg hlt, if_neg (by omega)]
/-- Behind all, there's no more. -/
theorem OwnB.cut {w : World} {e : TypeId} {a : Option Addr} {n c : Nat} {bs : List Nat} (h : OwnB w 0 e (.slice a n c) bs) {m : Nat} (hm : m ≤ n) : OwnB w 0 e (.slice a m c) (bs.take m) := by
  have hn := own_len h
  have hl : (bs.take m).length = m := by rw [List.length_take]; omega
  unfold OwnB
  rw [hl]
  refine ⟨by simp; omega, ?_⟩
  rcases h.2 with ⟨h', _⟩ | ⟨g, cap, cur, h', hb, hh, h1, h2, h3, h4⟩
  · injection h' with e1 e2 e3
    subst e1 e3
    have : m = 0 := by omega
    subst this
    exact .inl ⟨rfl, rfl⟩
  · injection h' with e1 e2 e3
    subst e1 e3
    refine .inr ⟨g, c, cur, rfl, hb, hh, by omega, h2, h3, ?_⟩
    rw [List.map_take, ← h4, List.take_take]
    congr 1
    omega
theorem good_cr {D : FS} {room : Nat} (h : Good D room) {s : List UInt8} {f : Fl} (hf : fat D s = some f) (ks : List Int) (i : Nat) : Good (D.put (.string s) (.held (crF ks i f))) room := by
  obtain ⟨h0, h1, h2, _⟩ := h.at_ hf
  have hm := crM_le ks i h1
  refine h.put h0 (by simp [crF]; omega) (fun c hc => h2 c (List.mem_of_mem_take hc)) (.inl (by rw [hf]; rfl)) ?_
  rw [hf]
  have := h.tot_
  simp [crF]
  omega
end
section
open Go.RowKit Go.Sort
open Go.Maps
attribute [local go_sem] Oper.semAt_some

def St.crash (t : St) (ks : List Int) : St := ⟨crD ks (size t.D) t.D, t.room, -1, 0⟩
theorem Row.but {O : Nat → Prop} {w w' : World} {a : Option Addr} {n c m : Nat} {cs : Nat → Value} (h : Row w w.heap.size a n c m cs) (hb : But O w w') (hfar : 0 < n → ∀ k o, a = some ⟨k, o, none⟩ → ¬ O k) : Row w' w'.heap.size a n c m cs :=
  ⟨h.le, h.max, fun hp => by
    obtain ⟨b, o, e, hlt, hc⟩ := h.at_ hp
    exact ⟨b, o, e, Nat.lt_of_lt_of_le hlt hb.size, fun k hk => (hb.cell hlt (hfar hp b o e)).trans (hc k hk)⟩⟩
theorem block_len (a : Option Addr) (n n' c : Nat) : (Value.slice a n c).ownBlock = (Value.slice a n' c).ownBlock := by cases a <;> rfl
theorem orO {O : Nat → Prop} {v : Option Nat} (h : ∀ k, v = some k → O k) : (fun k => O k ∨ v = some k) = O := by
  funext k
  exact propext ⟨fun hk => hk.elim id (h k), .inl⟩
theorem row_alloc {w : World} {a : Option Addr} {n c m : Nat} {cs : Nat → Value} (h : Row w w.heap.size a n c m cs) (o : Obj) : Row (w.alloc o) w.heap.size a n c m cs := h.below ((Below.refl w.heap.size w).alloc (Nat.le_refl _) o) (Nat.le_refl _)
theorem row_drew {w : World} {B : Nat} {a : Option Addr} {n c m : Nat} {cs : Nat → Value} (h : Row w B a n c m cs) : Row w.drew B a n c m cs := ⟨h.le, h.max, h.at_⟩
theorem row_set {w : World} {B : Nat} {a : Option Addr} {n c m : Nat} {cs : Nat → Value} (h : Row w B a n c m cs) (p : Addr) (hp : B ≤ p.block) (u : Value) : Row (w.setCell p u) B a n c m cs := h.below ((Below.refl B w).setCell hp u) (Nat.le_refl _)

set_option linter.unusedSimpArgs false in
set_option maxRecDepth 100000 in
set_option maxHeartbeats 3200000 in
theorem crash_any {w : World} {dp : Nat} {t : St} {O : Nat → Prop} (h : IsD w dp t O) (ks : List Int) (a : Option Addr) (n c : Nat) (hr : Row w w.heap.size a n c 1 (intsC ks)) (hn : ks.length = n) (hfar : 0 < n → ∀ k o, a = some ⟨k, o, none⟩ → ¬ O k) :
    Calls Tryz.prog 30 #[.pointer (some ⟨dp, 0, none⟩), .slice a n c] w (Turns w dp O (t.crash ks)) := by
  obtain ⟨mb, C, h⟩ := h
  have LS := Lib.hid (list_any h)
  have hO := h.lt
  have hgood := h.good
  have hz := h.good.size_
  have hnz : Hid ((strKeys t.D).length = size t.D) := size_names t.D
  have HH := Lib.hid (And.intro h (And.intro hr (And.intro hfar (And.intro hgood hO))))
  clear h hr hfar hgood hO
  go_enter Tryz.func30, Tryz.ntmps30
  go_wp2_with fail
  refine LS.out.mono ?_
  rintro e w0 ⟨g, nc, rfl, how, hb0⟩
  have hgb : w.heap.size ≤ g ∧ g < w0.heap.size := by
    rcases how.2 with ⟨h', _⟩ | ⟨g', cap', cur, h', h1, h2, _⟩
    · cases h'
    · injection h' with h'; injection h' with h'; injection h' with h'; subst h'; exact ⟨h1, lt_of_heap h2⟩
  have HN := Lib.hid (And.intro how hb0)
  clear how hb0 LS
  generalize hL : (strKeys t.D).length = L at *
  have HLn := Lib.hid hL
  have hLz : L ≤ 64 := by have := hnz.out; omega
  clear hL
  go_wp2_with fail
  go_loopw [10] (fun i wr => ∃ k : Nat, k ≤ L ∧ i = .int .i64 (k : Int) ∧ (∃ mb C, DskC wr dp mb C (crD ks k t.D) t.room t.fuse t.fails O) ∧ But O w0 wr) (fun i _ => L - (intOf i).toNat)
  case atStart => exact ⟨0, Nat.zero_le _, rfl, ⟨mb, C, by rw [crD_zero]; exact HH.out.1.below HN.out.2⟩, But.refl _ _⟩
  case round =>
    obtain ⟨k, hk, rfl, ⟨mb', C', hd⟩, hbt⟩ := hrel
    by_cases hlt : k < L
    · obtain ⟨_, hr0, hfar0, hG0, hO0⟩ := HH.out
      obtain ⟨s, hs⟩ : ∃ s, (strKeys t.D)[k]? = some s := ⟨_, List.getElem?_eq_getElem (by rw [HLn.out]; exact hlt)⟩
      obtain ⟨f, hf⟩ : ∃ f, fat t.D s = some f := Option.isSome_iff_exists.1 ((names_mem hG0 s).1 (List.mem_of_getElem? hs))
      have hfk : fat (crD ks k t.D) s = some f := by rw [fat_crD ks k hG0 hs hf, if_neg (by omega)]
      have hat := hG0.at_ hf
      have hsz : s.length ≤ 16 := by
        have := hat.1
        unfold nmOk at this
        simp at this
        omega
      have hgO : ¬ O g := fun ho => by have := hO0 g ho; omega
      have u0 : wr.cell? ⟨g, k, none⟩ = some (.string ⟨s.toArray⟩) := (hbt.cell hgb.2 hgO).trans (by
        rw [HN.out.1.cellAt k (by omega), List.getElem?_map, hs]; rfl)
      have c0 := hd.cell.1
      have hbs : (⟨s.toArray⟩ : ByteArray).size ≤ 281474976710656 := by show s.toArray.size ≤ _; simp; omega
      have hda : (⟨s.toArray⟩ : ByteArray).data.toList = s := by simp
      have LK := (hd.files.run_look (s := ⟨s.toArray⟩) (by unfold maxLen; omega) wr rfl).1
      rw [hda] at LK
      obtain ⟨f1, f2, f3, f4, f5, f6, f7, f8⟩ := hd.file_ s
      rw [hfk] at f1 f2 f3 f4 f5
      simp only [Option.getD_some] at f1 f2 f3 f4 f5
      have hnl := own_len f2
      have hm := crM_le ks k hat.2.1
      have hsub : Hid (crM ks k f = f.l + (keptV ks k (((cat C' (.string s)).n : Int) - (f.l : Int))).toNat) := by show _ = _; unfold crM; rw [hnl]
      have hq := keptV_le ks k (most := ((cat C' (.string s)).n : Int) - (f.l : Int)) (by omega)
      have hgc : Good ((crD ks k t.D).put (.string s) (.held ⟨f.bs.take (crM ks k f), crM ks k f⟩)) t.room := good_cr hd.good hfk ks k
      have hsucc : crD ks (k + 1) t.D = (crD ks k t.D).put (.string s) (.held ⟨f.bs.take (crM ks k f), crM ks k f⟩) := crD_succ ks k hG0 hs hf
      have hrw := ((hr0.below HN.out.2 (Nat.le_refl _)).more HN.out.2.size).but hbt hfar0
      unfold Fe.val at LK
      generalize crM ks k f = m at *
      generalize hfe : cat C' (.string s) = fe at *
      have w1 : IntKind.i64.wrap ((fe.n : Int) - (f.l : Int)) = (fe.n : Int) - (f.l : Int) := by rw [IntKind.wrap_i64]; omega
      generalize hqv : keptV ks k ((fe.n : Int) - (f.l : Int)) = q at *
      have w2 : IntKind.i64.wrap ((f.l : Int) + q) = (m : Int) := by rw [IntKind.wrap_i64]; have := hsub.out; omega
      have hmn : m ≤ fe.n := by omega
      have hmc : m ≤ fe.c := by
        rcases f2.2 with ⟨h', h0⟩ | ⟨g', cap', cur, h', _, _, h3, _⟩
        · unfold Fe.sl at h'; injection h' with _ h2' _; omega
        · unfold Fe.sl at h'; injection h' with _ h2' h3'; omega
      rw [f1] at LK
      have KT := Lib.hid (fun (x : World) (hx : Row x wr.heap.size a n c 1 (intsC ks)) => by have := kept_any ks a n c k ((fe.n : Int) - (f.l : Int)) wr.heap.size x hx hn (by omega); rw [hqv] at this; exact this)
      have cc : ∀ w, (Instr.slice 38 (.slice fe.a fe.n fe.c) none (some (.int .i64 (m : Int))) none).run Tryz.prog w = .ok (.slice fe.a m fe.c) w :=
        run_cut_to (P := Tryz.prog) 38 5 Tryz.underlying38 info_u8 fe.a fe.n fe.c m hmc
      have HB : Below wr.heap.size wr (wr.alloc (.cells #[.slice fe.a m fe.c, .int .i64 (m : Int)] 111)).drew := Below.drew ((Below.refl _ _).alloc (Nat.le_refl _) _)
      have LY := Lib.hid (lay_any ⟨s.toArray⟩ ((hd.below HB).x (⟨s.toArray⟩ : ByteArray).data.toList) hbs ⟨fe.a, m, fe.c, (m : Int)⟩ ⟨f.bs.take m, m⟩ rfl ((OwnB.cut f2 hmn).below HB)
        (fun k' f' b hk' hl hb => by rw [hda] at hk'; exact f6 k' f' b hk' hl ((block_len fe.a fe.n m fe.c).trans hb)) (fun b hb => (f7 b ((block_len fe.a fe.n m fe.c).trans hb)).2) (by rw [hda]; exact hgc))
      have HR := Lib.hid (And.intro hd (And.intro hbt (And.intro f7 (And.intro hsucc hrw))))
      clear hd hbt f1 f2 f3 f4 f5 f6 f7 f8 hr0 hfar0 hG0 hO0 hs hf hfk hat hsub hgc hsucc hfe hqv hq hm hnl hrw
      go_wp2_with fail
      obtain ⟨b0, b1⟩ := cells2 wr (.slice fe.a fe.n fe.c) (.int .i64 (f.l : Int)) 111
      have RW := row_drew (row_alloc HR.out.2.2.2.2 (.cells #[.slice fe.a fe.n fe.c, .int .i64 (f.l : Int)] 111))
      refine wp_region_still_tail 13 (by kernel_rfl) (by kernel_rfl) ?_
      change wpStill _ _ (wr.alloc (.cells #[.slice fe.a fe.n fe.c, .int .i64 (f.l : Int)] 111)).drew (fun a' => wpList _ _ _ _ a' (wr.alloc (.cells #[.slice fe.a fe.n fe.c, .int .i64 (f.l : Int)] 111)).drew) _ _
      have d0 : (wr.alloc (.cells #[.slice fe.a fe.n fe.c, .int .i64 (f.l : Int)] 111)).drew.cell? ⟨wr.heap.size, 0, none⟩ = some (.slice fe.a fe.n fe.c) := b0
      have d1 : (wr.alloc (.cells #[.slice fe.a fe.n fe.c, .int .i64 (f.l : Int)] 111)).drew.cell? ⟨wr.heap.size, 1, none⟩ = some (.int .i64 (f.l : Int)) := b1
      obtain ⟨Y, hY⟩ : ∃ Y, Y = (wr.alloc (.cells #[.slice fe.a fe.n fe.c, .int .i64 (f.l : Int)] 111)).drew := ⟨_, rfl⟩
      rw [← hY] at d0 d1 RW ⊢
      have HY := Lib.hid hY
      clear hY b0 b1
      simp only [List.take_succ_cons, List.take_zero, List.drop_succ_cons, List.drop_zero]
      repeat still_step
      still_call ((KT.out Y RW).mono fun e w' h => ⟨h.1, h.2.symm⟩)
      repeat still_step
      refine wpStill_nil ?_
      have hY := HY.out
      subst hY
      clear HY RW d0 d1
      go_wp2_with fail
      refine LY.out.mono ?_
      rintro e w6 hL
      have he := hL.1
      subst he
      have HL := Lib.hid hL
      have HB' := Lib.hid HB
      clear hL LY HB KT
      go_wp2
      go_roundw
      case rel =>
        obtain ⟨hd, hbt, f7, hsucc, _⟩ := HR.out
        refine ⟨k + 1, by omega, by go_num, ⟨mb', C'.put (.string s) (.held ⟨fe.a, m, fe.c, (m : Int)⟩), ?_⟩, (hbt.trans (But.of_below (O := O) HB'.out) (fun _ hi => .inl hi)).trans HL.out.2.2 (fun _ hi => .inl hi)⟩
        have h6 := HL.out.2.1
        rw [orO (v := (⟨fe.a, m, fe.c, (m : Int)⟩ : Fe).sl.ownBlock) (fun k' hb => (f7 k' ((block_len fe.a fe.n m fe.c).trans hb)).1)] at h6
        rw [hsucc]
        exact h6
      case measure => simp [intOf]; omega
    · have hkL : k = L := by omega
      subst hkL
      have hfz := hd.fuse_
      have hfl := hd.fails_
      have h1 := hd.set_ 2 (.int .i64 (-1)) (fuse' := -1) (fails' := t.fails) rfl (by decide) hd.fails_
      have h2 := h1.set_ 3 (.int .i64 0) (fuse' := -1) (fails' := 0) rfl (by decide) (by decide)
      have z := hd.cell.2.2.2.2
      have z2 := z 2
      have z3 := z 3
      have c2 := hd.cell.2.2.1
      have c3 := hd.cell.2.2.2.1
      have hB : But O w ((wr.setCell ⟨dp, 2, none⟩ (.int .i64 (-1))).setCell ⟨dp, 3, none⟩ (.int .i64 0)) := (((But.of_below (O := O) HN.out.2).trans hbt (fun _ hi => .inl hi)).setCell (p := ⟨dp, 2, none⟩) (.inl hd.dpO) _).setCell (p := ⟨dp, 3, none⟩) (.inl hd.dpO) _
      have HE := Lib.hid (And.intro h2 (And.intro hB hnz.out))
      clear hd hbt h1 h2 z hB hfz hfl
      go_wp2
      go_end0
      refine ⟨rfl, ⟨mb', C', ?_⟩, HE.out.2.1⟩
      have h2 := HE.out.1
      rw [HE.out.2.2] at h2
      exact h2
end
section
open Go.RowKit Go.Sort
open Go.Maps

/-- A disk that lies behind all that was there in w0. -/
structure DK (w0 w : World) (dp : Nat) (t : St) (O : Nat → Prop) : Prop where
  is : IsD w dp t O
  base : ∀ k, O k → w0.heap.size ≤ k
  below : Below w0.heap.size w0 w
theorem DK.on {w0 w w' : World} {dp : Nat} {t : St} {O : Nat → Prop} (h : DK w0 w dp t O) (hb : Below w.heap.size w w') : DK w0 w' dp t O :=
  ⟨Dsk.below h.is hb, h.base, h.below.trans (hb.mono h.below.size)⟩
theorem DK.lt {w0 w : World} {dp : Nat} {t : St} {O : Nat → Prop} (h : DK w0 w dp t O) : ∀ k, O k → k < w.heap.size := Dsk.lt h.is
theorem DK.good {w0 w : World} {dp : Nat} {t : St} {O : Nat → Prop} (h : DK w0 w dp t O) : Good t.D t.room := Dsk.good h.is
/-- What a call of it leaves. -/
def Mv (w0 w : World) (dp : Nat) (O : Nat → Prop) (t : St) (w' : World) : Prop := ∃ O', DK w0 w' dp t O' ∧ But O w w' ∧ ∀ k, O' k → O k ∨ w.heap.size ≤ k
theorem Mv.of {w0 w w' : World} {dp : Nat} {O O' : Nat → Prop} {t t' : St} (h : DK w0 w dp t O) (hi : IsD w' dp t' O') (hb : But O w w') (hO : ∀ k, O' k → O k ∨ w.heap.size ≤ k) : Mv w0 w dp O t' w' :=
  ⟨O', ⟨hi, fun k hk => by rcases hO k hk with h1 | h1; exact h.base k h1; exact Nat.le_trans h.below.size h1, h.below.trans (hb.below h.below.size h.base)⟩, hb, hO⟩
/-- What isn't the disk's stays so. -/
theorem Mv.far {w0 w w' : World} {dp : Nat} {O : Nat → Prop} {t : St} (h : Mv w0 w dp O t w') : ∃ O', DK w0 w' dp t O' ∧ But O w w' ∧ ∀ k, k < w.heap.size → ¬ O k → ¬ O' k := by
  obtain ⟨O', h1, h2, h3⟩ := h
  exact ⟨O', h1, h2, fun k hk hn ho => by rcases h3 k ho with h4 | h4; exact hn h4; omega⟩
section
variable {w0 w : World} {dp : Nat} {t : St} {O : Nat → Prop}
theorem DK.new (room : Nat) (hr : room ≤ 1048576) (w : World) : Calls Tryz.prog 7 #[.int .i64 (room : Int)] w fun e w' => ∃ dp O, e = .returned (.pointer (some ⟨dp, 0, none⟩)) ∧ DK w w' dp ⟨.map [], room, -1, 0⟩ O ∧ Below w.heap.size w w' ∧ ∀ k, O k → w.heap.size ≤ k :=
  (new_yes room hr w).mono fun e w' ⟨h1, h2, h3⟩ => ⟨_, _, h1, ⟨h3, fun k hk => by rcases hk with rfl | rfl <;> omega, h2⟩, h2, fun k hk => by rcases hk with rfl | rfl <;> omega⟩
theorem DK.tells (h : DK w0 w dp t O) {r : Int × St} {e : Ending} {w' : World} (hT : Tells1 (Left w dp O r) e w') : e = .returned (.int .i64 r.1) ∧ Mv w0 w dp O r.2 w' := by
  obtain ⟨x, rfl, rfl, O', h1, h2, h3⟩ := hT
  exact ⟨rfl, Mv.of h h1 h2 h3⟩
theorem DK.write (h : DK w0 w dp t O) (s : ByteArray) (hs : s.size ≤ 281474976710656) (a : Option Addr) (n c : Nat) (b : List Nat) (hsl : Sl w w.heap.size a n c b) (hn : n ≤ 140737488351232) (hfar : 0 < n → ∀ k o, a = some ⟨k, o, none⟩ → ¬ O k) :
    Calls Tryz.prog 63 #[.pointer (some ⟨dp, 0, none⟩), .string s, .slice a n c] w fun e w' => e = .returned (.int .i64 (t.write s.data.toList b).1) ∧ Mv w0 w dp O (t.write s.data.toList b).2 w' :=
  (write_any h.is s hs a n c b hsl hn hfar).mono fun _ _ hT => h.tells hT
theorem DK.sync (h : DK w0 w dp t O) (s : ByteArray) (hs : s.size ≤ 281474976710656) :
    Calls Tryz.prog 60 #[.pointer (some ⟨dp, 0, none⟩), .string s] w fun e w' => e = .returned (.int .i64 (t.sync s.data.toList).1) ∧ Mv w0 w dp O (t.sync s.data.toList).2 w' :=
  (sync_any h.is s hs).mono fun _ _ hT => h.tells hT
theorem DK.delete (h : DK w0 w dp t O) (s : ByteArray) (hs : s.size ≤ 281474976710656) :
    Calls Tryz.prog 62 #[.pointer (some ⟨dp, 0, none⟩), .string s] w fun e w' => e = .returned (.int .i64 (t.delete s.data.toList).1) ∧ Mv w0 w dp O (t.delete s.data.toList).2 w' :=
  (delete_any h.is s hs).mono fun _ _ hT => h.tells hT
theorem DK.rename (h : DK w0 w dp t O) (s tn : ByteArray) (hs : s.size ≤ 281474976710656) (ht : tn.size ≤ 281474976710656) :
    Calls Tryz.prog 61 #[.pointer (some ⟨dp, 0, none⟩), .string s, .string tn] w fun e w' => e = .returned (.int .i64 (t.rename s.data.toList tn.data.toList).1) ∧ Mv w0 w dp O (t.rename s.data.toList tn.data.toList).2 w' :=
  (rename_any h.is s hs tn ht).mono fun _ _ hT => h.tells hT
theorem DK.turns (h : DK w0 w dp t O) {t' : St} {e : Ending} {w' : World} (hT : Turns w dp O t' e w') : e = .returned (.tuple #[]) ∧ Mv w0 w dp O t' w' :=
  ⟨hT.1, Mv.of h hT.2.1 hT.2.2 (fun _ hk => .inl hk)⟩
theorem DK.fuse (h : DK w0 w dp t O) (n : Int) (hn : n ≤ 9223372036854775807) : Calls Tryz.prog 42 #[.pointer (some ⟨dp, 0, none⟩), .int .i64 n] w fun e w' => e = .returned (.tuple #[]) ∧ Mv w0 w dp O (t.fuse_ n) w' :=
  (fuse_any h.is n hn).mono fun _ _ hT => h.turns hT
theorem DK.fail (h : DK w0 w dp t O) (n : Int) (hn : n ≤ 9223372036854775807) : Calls Tryz.prog 43 #[.pointer (some ⟨dp, 0, none⟩), .int .i64 n] w fun e w' => e = .returned (.tuple #[]) ∧ Mv w0 w dp O (t.fail_ n) w' :=
  (fail_any h.is n hn).mono fun _ _ hT => h.turns hT
theorem DK.crash (h : DK w0 w dp t O) (ks : List Int) (a : Option Addr) (n c : Nat) (hr : Row w w.heap.size a n c 1 (intsC ks)) (hn : ks.length = n) (hfar : 0 < n → ∀ k o, a = some ⟨k, o, none⟩ → ¬ O k) :
    Calls Tryz.prog 30 #[.pointer (some ⟨dp, 0, none⟩), .slice a n c] w fun e w' => e = .returned (.tuple #[]) ∧ Mv w0 w dp O (t.crash ks) w' :=
  (crash_any h.is ks a n c hr hn hfar).mono fun _ _ hT => h.turns hT
theorem DK.read (h : DK w0 w dp t O) (s : ByteArray) (hs : s.size ≤ maxLen) : Calls Tryz.prog 51 #[.pointer (some ⟨dp, 0, none⟩), .string s] w (NewBytes w ((fat t.D s.data.toList).getD Fl.zero).bs (fat t.D s.data.toList).isSome) := read_any h.is s hs
theorem DK.list (h : DK w0 w dp t O) : Calls Tryz.prog 28 #[.pointer (some ⟨dp, 0, none⟩)] w (NewNames w (strKeys t.D)) := by obtain ⟨mb, C, h1⟩ := h.is; exact list_any h1
theorem DK.used (h : DK w0 w dp t O) : Calls Tryz.prog 171 #[.pointer (some ⟨dp, 0, none⟩)] w fun e w' => e = .returned (.int .i64 ((tot t.D : Nat) : Int)) ∧ Below w.heap.size w w' := by obtain ⟨mb, C, h1⟩ := h.is; exact used_any h1
theorem DK.synced (h : DK w0 w dp t O) (s : ByteArray) (hs : s.size ≤ maxLen) : Calls Tryz.prog 53 #[.pointer (some ⟨dp, 0, none⟩), .string s] w fun e w' => e = .returned (.int .i64 (((fat t.D s.data.toList).getD Fl.zero).l : Int)) ∧ w = w' := by obtain ⟨mb, C, h1⟩ := h.is; exact synced_any h1 s hs
end
/-- Bytes of a literal that has just been made lie nowhere in the disk. -/
theorem lit_far {w0 w : World} {dp : Nat} {t : St} {O : Nat → Prop} (h : DK w0 w dp t O) {n : Nat} : 0 < n → ∀ k o, (some ⟨w.heap.size, 0, none⟩ : Option Addr) = some ⟨k, o, none⟩ → ¬ O k := by
  intro _ k o e ho
  injection e with e
  injection e with e1 e2
  have := h.lt k ho
  omega
theorem lit_sl (w : World) (bs : List Nat) (hb : ∀ c ∈ bs, c < 256) (hm : bs.length ≤ maxLen) : Sl (w.alloc (.cells ((bs.map bv).toArray) 5)) (w.alloc (.cells ((bs.map bv).toArray) 5)).heap.size (some ⟨w.heap.size, 0, none⟩) bs.length bs.length bs :=
  Sl.new (heap_alloc_new w _) rfl hb _ rfl hm
/-- New bytes read as such, and lie nowhere in the disk. -/
theorem NewBytes.out {w0 w w' : World} {dp : Nat} {t : St} {O : Nat → Prop} (h : DK w0 w dp t O) {bs : List Nat} {is : Bool} {e : Ending} (hN : NewBytes w bs is e w') (hb : ∀ c ∈ bs, c < 256) :
    ∃ a c, e = .returned (.tuple #[.slice a bs.length c, .bool is]) ∧ Sl w' w'.heap.size a bs.length c bs ∧ (0 < bs.length → ∀ k o, a = some ⟨k, o, none⟩ → ¬ O k ∧ w.heap.size ≤ k) ∧ Below w.heap.size w w' := by
  obtain ⟨a, c, he, ho, hB⟩ := hN
  obtain ⟨a', c', e1, hs, hbase⟩ := ho.sl_base hb
  injection e1 with e2 e3 e4
  subst e2 e4
  exact ⟨a, c, he, hs, fun _ k o hk => ⟨fun hO => by have := h.lt k hO; have := hbase k o hk; omega, hbase k o hk⟩, hB⟩
theorem fat_byte {D : FS} {room : Nat} (h : Good D room) (s : List UInt8) : ∀ c ∈ ((fat D s).getD Fl.zero).bs, c < 256 := by
  cases hf : fat D s with
  | none => intro c hc; cases hc
  | some f => exact (h.at_ hf).2.2.1
end
end
section
set_option linter.unusedSimpArgs false
set_option linter.unusedVariables false
open Go.ChangeShapes Go.WideShapes Go.RowKit

section
variable {H : Type} {enc : TypeId × Value → H}

set_option maxRecDepth 100000 in
/-- A slice of bytes, cell by cell. -/
theorem open_bytes {W : World} {fuel : Nat} {v : Value} {x : DataW H × List MemPlace} (h : DataW.trod enc Tryz.prog W 0 (fun _ => true) true fuel 38 [v] = some x) :
    ∃ a cap bs, v = .slice a bs.length cap ∧ Sl W W.heap.size a bs.length cap bs := by
  rcases open_ints Tryz.underlying38 Tryz.underlying5 (by kernel_rfl) h with ⟨hcs, _⟩ | ⟨a, l, c, zs, hcs, _, hl, hm, hz, _, hcell, hwz⟩
  · simp at hcs
    subst hcs
    exact ⟨none, 0, [], rfl, Sl.nil_⟩
  · simp at hcs
    subst hcs
    obtain ⟨bs, hs⟩ := Sl.of_row (w := W) (a := some a) (len := l) (cap := c) (zs := zs) (.inr ⟨a, rfl, hl, hm, by simpa using hz, hcell, hwz⟩)
    have := hs.length
    subst this
    exact ⟨some a, c, bs, rfl, hs⟩
set_option maxRecDepth 100000 in
theorem open_bytes1 {W : World} {r : Reach} {b0 : Nat} {v : Value} {d : DataW H} {p : List MemPlace} (hv : Value.okWide Tryz.prog W r b0 38 v) (h : DataW.Trod enc Tryz.prog W 0 (fun _ => true) true 38 v d p) :
    ∃ a cap bs, v = .slice a bs.length cap ∧ Sl W W.heap.size a bs.length cap bs := by
  obtain ⟨a, l, c, rfl⟩ := okWide_slice Tryz.underlying38 hv
  obtain ⟨fuel, hf⟩ := h
  exact open_bytes (by simpa [Value.cells] using hf)
end
end
section
set_option linter.unusedSimpArgs false
set_option linter.unusedVariables false
open Go.ChangeShapes Go.WideShapes Go.RowKit

/-- An operation, with where its rows lie. -/
structure OpV where
  what : Int
  nm : ByteArray
  to_ : ByteArray
  ba : Option Addr
  bc : Nat
  bs : List Nat
  n : Int
  ka : Option Addr
  kc : Nat
  ks : List Int
instance : Inhabited OpV := ⟨⟨0, ⟨#[]⟩, ⟨#[]⟩, none, 0, [], 0, none, 0, []⟩⟩
structure OpIn (w : World) (B : Nat) (op : OpV) : Prop where
  sl : Sl w B op.ba op.bs.length op.bc op.bs
  row : Row w B op.ka op.ks.length op.kc 1 (intsC op.ks)
  what_ : -9223372036854775808 ≤ op.what ∧ op.what ≤ 9223372036854775807
  n_ : -9223372036854775808 ≤ op.n ∧ op.n ≤ 9223372036854775807
  nm_ : op.nm.size ≤ 140737488351232
  to__ : op.to_.size ≤ 140737488351232
  bs_ : op.bs.length ≤ 140737488351232
/-- Operations, one behind the other. -/
structure OpsIn (w : World) (B : Nat) (a : Option Addr) (len cap : Nat) (l : List OpV) : Prop where
  length : l.length = len
  le : len ≤ cap
  max : cap ≤ maxLen
  at_ : 0 < len → ∃ b o, a = some ⟨b, o, none⟩ ∧ b < B ∧ ∀ (k : Nat) (op : OpV), l[k]? = some op →
    (w.cell? ⟨b, o + k * 6, none⟩ = some (.int .i64 op.what) ∧ w.cell? ⟨b, o + k * 6 + 1, none⟩ = some (.string op.nm) ∧ w.cell? ⟨b, o + k * 6 + 2, none⟩ = some (.string op.to_) ∧
      w.cell? ⟨b, o + k * 6 + 3, none⟩ = some (.slice op.ba op.bs.length op.bc) ∧ w.cell? ⟨b, o + k * 6 + 4, none⟩ = some (.int .i64 op.n) ∧ w.cell? ⟨b, o + k * 6 + 5, none⟩ = some (.slice op.ka op.ks.length op.kc)) ∧ OpIn w B op
theorem OpIn.below {w w' : World} {B B' : Nat} {op : OpV} (h : OpIn w B op) (hb : Below B' w w') (hB : B ≤ B') : OpIn w' B' op :=
  ⟨h.sl.below hb hB, h.row.below hb hB, h.what_, h.n_, h.nm_, h.to__, h.bs_⟩
theorem OpsIn.below {w w' : World} {B B' : Nat} {a : Option Addr} {len cap : Nat} {l : List OpV} (h : OpsIn w B a len cap l) (hb : Below B' w w') (hB : B ≤ B') : OpsIn w' B' a len cap l :=
  ⟨h.length, h.le, h.max, fun hp => by
    obtain ⟨b, o, e, hlt, hc⟩ := h.at_ hp
    have hk : ∀ j, w'.cell? ⟨b, j, none⟩ = w.cell? ⟨b, j, none⟩ := fun j => hb.cell (p := ⟨b, j, none⟩) (by show b < B'; omega)
    refine ⟨b, o, e, by omega, fun k op hop => ?_⟩
    obtain ⟨⟨h0, h1, h2, h3, h4, h5⟩, hi⟩ := hc k op hop
    exact ⟨⟨(hk _).trans h0, (hk _).trans h1, (hk _).trans h2, (hk _).trans h3, (hk _).trans h4, (hk _).trans h5⟩, hi.below hb hB⟩⟩

section
variable {H : Type} {enc : TypeId × Value → H}
set_option maxRecDepth 100000 in
/-- A slice of ints, cell by cell. -/
theorem open_ints0 {W : World} {fuel : Nat} {v : Value} {x : DataW H × List MemPlace} (h : DataW.trod enc Tryz.prog W 0 (fun _ => true) true fuel 39 [v] = some x) :
    ∃ a cap ks, v = .slice a (List.length ks) cap ∧ Row W W.heap.size a (List.length ks) cap 1 (intsC ks) ∧ ∀ k ∈ ks, -9223372036854775808 ≤ k ∧ k ≤ 9223372036854775807 := by
  rcases open_ints Tryz.underlying39 Tryz.underlying3 (by kernel_rfl) h with ⟨hcs, _⟩ | ⟨a, l, c, zs, hcs, _, hl, hm, hz, _, hcell, hwz⟩
  · simp at hcs
    subst hcs
    exact ⟨none, 0, [], rfl, ⟨Nat.le_refl _, by simp [maxLen], fun h => absurd h (by simp)⟩, by simp⟩
  · simp at hcs
    subst hcs
    simp at hz
    have hln : (zs.take l).length = l := by rw [List.length_take]; omega
    refine ⟨some a, c, zs.take l, by rw [hln], ⟨by omega, hm, fun hp => ?_⟩, fun k hk => by have := bounds_i64 (hwz k (List.mem_of_mem_take hk)); omega⟩
    rw [hln] at hp ⊢
    obtain ⟨b, off, spot⟩ := a
    have h0 := hcell 0 (by omega)
    have hs : spot = none := by simpa [Addr.add] using World.cell?_spot h0
    subst hs
    refine ⟨b, off, rfl, block_lt_of_cell h0, fun j hj => ?_⟩
    have := hcell j (by omega)
    rw [Addr.add_mid] at this
    rw [this]
    simp only [intsC]
    rw [List.getD_eq_getElem?_getD, List.getD_eq_getElem?_getD, List.getElem?_take_of_lt (by omega)]
set_option maxRecDepth 100000 in
theorem open_ints1 {W : World} {r : Reach} {b0 : Nat} {v : Value} {d : DataW H} {p : List MemPlace} (hv : Value.okWide Tryz.prog W r b0 39 v) (h : DataW.Trod enc Tryz.prog W 0 (fun _ => true) true 39 v d p) :
    ∃ a cap ks, v = .slice a (List.length ks) cap ∧ Row W W.heap.size a (List.length ks) cap 1 (intsC ks) ∧ ∀ k ∈ ks, -9223372036854775808 ≤ k ∧ k ≤ 9223372036854775807 := by
  obtain ⟨a, l, c, rfl⟩ := okWide_slice Tryz.underlying39 hv
  obtain ⟨fuel, hf⟩ := h
  exact open_ints0 (by simpa [Value.cells] using hf)

theorem reach_val : reachBytes = 140737488351232 := by decide
set_option maxRecDepth 100000 in
/-- An operation's six cells. -/
theorem open_op {W : World} {n : Nat} {cs : List Value} {x : DataW H × List MemPlace} (h : DataW.trod enc Tryz.prog W 0 (fun _ => true) true n 57 cs = some x) (hz : ∀ m ∈ x.1.weights Tryz.prog 57, m ≤ reachBytes) :
    ∃ op : OpV, cs = [.int .i64 op.what, .string op.nm, .string op.to_, .slice op.ba op.bs.length op.bc, .int .i64 op.n, .slice op.ka op.ks.length op.kc] ∧ OpIn W W.heap.size op := by
  obtain ⟨xs, n', _, hx, hcl, hxl, hf⟩ := DataW.trod_struct Tryz.underlying57 h
  have hcl : cs.length = 6 := hcl.trans (by kernel_rfl)
  have hxl : xs.length = 6 := hxl
  match cs, hcl, xs, hxl with
  | [c0, c1, c2, c3, c4, c5], _, [y0, y1, y2, y3, y4, y5], _ =>
    have g0 : DataW.trod enc Tryz.prog W 0 (fun _ => true) true n' 3 [c0] = some y0 := hf 0 _ rfl
    have g1 : DataW.trod enc Tryz.prog W 0 (fun _ => true) true n' 9 [c1] = some y1 := hf 1 _ rfl
    have g2 : DataW.trod enc Tryz.prog W 0 (fun _ => true) true n' 9 [c2] = some y2 := hf 2 _ rfl
    have g3 : DataW.trod enc Tryz.prog W 0 (fun _ => true) true n' 38 [c3] = some y3 := hf 3 _ rfl
    have g4 : DataW.trod enc Tryz.prog W 0 (fun _ => true) true n' 3 [c4] = some y4 := hf 4 _ rfl
    have g5 : DataW.trod enc Tryz.prog W 0 (fun _ => true) true n' 39 [c5] = some y5 := hf 5 _ rfl
    obtain ⟨e0, q0, _, w0⟩ := DataW.trod_int Tryz.underlying3 g0
    obtain ⟨s1, q1, v1, w1⟩ := DataW.trod_string Tryz.underlying9 g1
    obtain ⟨s2, q2, v2, w2⟩ := DataW.trod_string Tryz.underlying9 g2
    obtain ⟨ba, bc, bs, q3, hs⟩ := open_bytes g3
    obtain ⟨e4, q4, _, w4⟩ := DataW.trod_int Tryz.underlying3 g4
    obtain ⟨ka, kc, ks, q5, hk, _⟩ := open_ints0 g5
    simp at q0 q1 q2 q4
    subst q0 q1 q2 q3 q4 q5
    have hw : ∀ (j : Nat) (t : TypeId) (d : DataW H), ([3, 9, 9, 38, 3, 39] : List TypeId)[j]? = some t → [y0.1, y1.1, y2.1, y3.1, y4.1, y5.1][j]? = some d → ∀ m ∈ d.weights Tryz.prog t, m ≤ reachBytes := fun j t d ht hd m hm => by
      refine hz m ?_
      rw [hx]
      show m ∈ DataW.weights Tryz.prog 57 (.agg [y0.1, y1.1, y2.1, y3.1, y4.1, y5.1])
      unfold DataW.weights
      rw [Tryz.underlying57]
      exact DataW.weights_mem_each ht hd m hm
    have z1 := hw 1 _ _ rfl rfl s1.data.toList.length (by rw [v1]; simp [DataW.weights])
    have z2 := hw 2 _ _ rfl rfl s2.data.toList.length (by rw [v2]; simp [DataW.weights])
    have z3 : bs.length ≤ reachBytes := by
      rcases open_ints Tryz.underlying38 Tryz.underlying5 (by kernel_rfl) g3 with ⟨hcs, _⟩ | ⟨a, l, c, zs, hcs, _, hl, hm, hzl, hx3, _⟩
      · simp at hcs
        rw [hcs.2.1]; simp
      · simp at hcs hzl
        have := hw 3 _ _ rfl rfl (((lits .u8 (zs.take l)).length + (lits .u8 (zs.drop l)).length) * Tryz.prog.bytesOf 5) (by
          rw [hx3]
          unfold DataW.weights
          rw [Tryz.underlying38]
          exact List.mem_cons_self)
        rw [show Tryz.prog.bytesOf 5 = 1 from by kernel_rfl] at this
        simp [lits] at this
        omega
    have b0 := bounds_i64 w0
    have b4 := bounds_i64 w4
    rw [reach_val] at z1 z2 z3
    exact ⟨⟨e0, s1, s2, ba, bc, bs, e4, ka, kc, ks⟩, rfl, ⟨hs, hk, by simpa using b0, by simpa using b4, by simpa using z1, by simpa using z2, z3⟩⟩
set_option maxRecDepth 100000 in
theorem open_ops {W : World} {r : Reach} {b0 : Nat} {v : Value} {d : DataW H} {p : List MemPlace} (hv : Value.okWide Tryz.prog W r b0 53 v) (h : DataW.Trod enc Tryz.prog W 0 (fun _ => true) true 53 v d p)
    (hz : ∀ m ∈ d.weights Tryz.prog 53, m ≤ reachBytes) :
    ∃ a cap l, v = .slice a (List.length l) cap ∧ OpsIn W W.heap.size a (List.length l) cap l ∧ List.length l ≤ 140737488351232 := by
  obtain ⟨a, l, c, rfl⟩ := okWide_slice Tryz.underlying53 hv
  obtain ⟨fuel, hf⟩ := h
  have hf' : DataW.trod enc Tryz.prog W 0 (fun _ => true) true fuel 53 [.slice a l c] = some (d, p) := by simpa [Value.cells] using hf
  rcases Deep.open_slice Tryz.underlying53 hf' with ⟨hcs, _⟩ | ⟨x, len, cap, m, n, D, Pl, hcs, _, hl, hm, hmm, hx, hV⟩
  · simp at hcs
    obtain ⟨rfl, rfl, rfl⟩ := hcs
    exact ⟨none, 0, [], rfl, ⟨rfl, by simp, by simp [maxLen], fun h => absurd h (by simp)⟩, by simp⟩
  · simp at hcs
    obtain ⟨rfl, rfl, rfl⟩ := hcs
    simp at hmm
    have hc6 : Tryz.prog.cellsOf 57 = 6 := by kernel_rfl
    simp only [Prod.mk.injEq] at hx
    have hlz : l ≤ 140737488351232 := by
      have := hz ((((List.range l).map D).length + ((List.range (m - l)).map fun j => D (l + j)).length) * Tryz.prog.bytesOf 57) (by
        rw [hx.1]
        unfold DataW.weights
        rw [Tryz.underlying53]
        exact List.mem_cons_self)
      rw [show Tryz.prog.bytesOf 57 = 96 from by kernel_rfl, reach_val] at this
      simp at this
      omega
    have hD : ∀ i, i < l → ∀ q ∈ (D i).weights Tryz.prog 57, q ≤ reachBytes := fun i hi q hq => by
      refine hz q ?_
      rw [hx.1]
      unfold DataW.weights
      rw [Tryz.underlying53]
      refine List.mem_cons_of_mem _ (List.mem_append_left _ ?_)
      have : ∀ (L : List Nat), i ∈ L → q ∈ DataW.weightsAll Tryz.prog 57 (L.map D) := by
        intro L
        induction L with
        | nil => intro h; cases h
        | cons y L ih =>
          intro h
          rcases List.mem_cons.1 h with rfl | h
          · exact List.mem_append_left _ hq
          · exact List.mem_append_right _ (ih h)
      exact this _ (List.mem_range.2 hi)
    obtain ⟨F, hF⟩ := Deep.choose_lt (α := OpV) (n := l) (p := fun i op => (∀ j, j < 6 → W.cell? ((x.add (i * 6)).add j) = [Value.int .i64 op.what, .string op.nm, .string op.to_, .slice op.ba op.bs.length op.bc, .int .i64 op.n, .slice op.ka op.ks.length op.kc][j]?) ∧ OpIn W W.heap.size op) (fun i hi => by
      obtain ⟨cs', hc, ht⟩ := hV i (by omega)
      rw [hc6] at hc
      obtain ⟨_, _, hat⟩ := World.cells?_some hc
      obtain ⟨op, e, ho⟩ := open_op ht (hD i hi)
      subst e
      exact ⟨op, hat, ho⟩)
    refine ⟨some x, c, (List.range l).map F, by simp, ⟨by simp, by simpa using hl, hm, fun hp => ?_⟩, by simpa using hlz⟩
    simp at hp
    obtain ⟨b, off, spot⟩ := x
    have h0 := (hF 0 hp).1 0 (by omega)
    have hs : spot = none := by
      have h0' : W.cell? (Addr.add (Addr.add ⟨b, off, spot⟩ (0 * 6)) 0) = some (.int .i64 (F 0).what) := h0
      simpa [Addr.add] using World.cell?_spot h0'
    subst hs
    have hlt : b < W.heap.size := by
      have h0' : W.cell? (Addr.add (Addr.add ⟨b, off, none⟩ (0 * 6)) 0) = some (.int .i64 (F 0).what) := h0
      simpa [Addr.add] using block_lt_of_cell h0'
    refine ⟨b, off, rfl, hlt, fun k op hop => ?_⟩
    rw [List.getElem?_map] at hop
    obtain ⟨i, hi, rfl⟩ := Option.map_eq_some_iff.1 hop
    have hkl : k < l := by have := (List.getElem?_eq_some_iff.1 hi).1; simpa using this
    rw [List.getElem?_range hkl] at hi
    injection hi with hi
    subst hi
    obtain ⟨hcell, ho⟩ := hF k hkl
    have hc : ∀ j, j < 6 → W.cell? ⟨b, off + k * 6 + j, none⟩ = [Value.int .i64 (F k).what, .string (F k).nm, .string (F k).to_, .slice (F k).ba (F k).bs.length (F k).bc, .int .i64 (F k).n, .slice (F k).ka (F k).ks.length (F k).kc][j]? := fun j hj => by
      have := hcell j hj
      rw [Addr.add_mid, Addr.add_mid] at this
      exact this
    exact ⟨⟨hc 0 (by omega), hc 1 (by omega), hc 2 (by omega), hc 3 (by omega), hc 4 (by omega), hc 5 (by omega)⟩, ho⟩
end
end
section
set_option linter.unusedVariables false
set_option linter.unusedSimpArgs false
open Go.RowKit Go.Sort
open Go.Maps
attribute [local go_sem] Oper.semAt_some

/-- What an operation answers, and leaves. -/
def St.do_ (t : St) (op : OpV) : Int × St :=
  if op.what = 3 ∨ op.what = 4 then t.sync op.nm.data.toList
  else if op.what = 5 then t.rename op.nm.data.toList op.to_.data.toList
  else if op.what = 6 then t.delete op.nm.data.toList
  else if op.what = 7 then (0, t.fuse_ op.n)
  else if op.what = 8 then (0, t.fail_ op.n)
  else if op.what = 9 then (0, t.crash op.ks)
  else t.write op.nm.data.toList op.bs
abbrev opVal (op : OpV) : Value := .agg #[.int .i64 op.what, .string op.nm, .string op.to_, .slice op.ba op.bs.length op.bc, .int .i64 op.n, .slice op.ka op.ks.length op.kc]
theorem cell_box6 (w : World) (v0 v1 v2 v3 v4 v5 : Value) (t : TypeId) :
    (w.alloc (.cells #[v0, v1, v2, v3, v4, v5] t)).cell? ⟨w.heap.size, 0, none⟩ = some v0 ∧ (w.alloc (.cells #[v0, v1, v2, v3, v4, v5] t)).cell? ⟨w.heap.size, 1, none⟩ = some v1 ∧ (w.alloc (.cells #[v0, v1, v2, v3, v4, v5] t)).cell? ⟨w.heap.size, 2, none⟩ = some v2 ∧
    (w.alloc (.cells #[v0, v1, v2, v3, v4, v5] t)).cell? ⟨w.heap.size, 3, none⟩ = some v3 ∧ (w.alloc (.cells #[v0, v1, v2, v3, v4, v5] t)).cell? ⟨w.heap.size, 4, none⟩ = some v4 ∧ (w.alloc (.cells #[v0, v1, v2, v3, v4, v5] t)).cell? ⟨w.heap.size, 5, none⟩ = some v5 :=
  ⟨(cell_of_row _ _ 0 _ _ _ (heap_alloc_new w _)).trans rfl, (cell_of_row _ _ 1 _ _ _ (heap_alloc_new w _)).trans rfl, (cell_of_row _ _ 2 _ _ _ (heap_alloc_new w _)).trans rfl, (cell_of_row _ _ 3 _ _ _ (heap_alloc_new w _)).trans rfl, (cell_of_row _ _ 4 _ _ _ (heap_alloc_new w _)).trans rfl, (cell_of_row _ _ 5 _ _ _ (heap_alloc_new w _)).trans rfl⟩
theorem Mv.before {w0 w w1 w' : World} {dp : Nat} {O : Nat → Prop} {t : St} (hb : Below w.heap.size w w1) (h : Mv w0 w1 dp O t w') : Mv w0 w dp O t w' := by
  obtain ⟨O', h1, h2, h3⟩ := h
  exact ⟨O', h1, (But.of_below (O := O) hb).trans h2 (fun _ hi => .inl hi), fun k hk => (h3 k hk).imp id (Nat.le_trans hb.size)⟩
def Done (w0 w : World) (dp : Nat) (O : Nat → Prop) (r : Int × St) (e : Ending) (w' : World) : Prop := e = .returned (.int .i64 r.1) ∧ Mv w0 w dp O r.2 w'
section
variable {w0 w : World} {dp : Nat} {t : St} {O : Nat → Prop}
set_option maxRecDepth 100000 in
set_option maxHeartbeats 3200000 in
theorem do_any (h : DK w0 w dp t O) (op : OpV) {B : Nat} (ho : OpIn w B op) (hB : B ≤ w0.heap.size) : Calls Tryz.prog 24 #[.pointer (some ⟨dp, 0, none⟩), opVal op] w (Done w0 w dp O (t.do_ op)) := by
  have hb1 : Below w.heap.size w (w.alloc (.cells #[.int .i64 op.what, .string op.nm, .string op.to_, .slice op.ba op.bs.length op.bc, .int .i64 op.n, .slice op.ka op.ks.length op.kc] 57)) := (Below.refl _ _).alloc (Nat.le_refl _) _
  obtain ⟨x0, x1, x2, x3, x4, x5⟩ := cell_box6 w (.int .i64 op.what) (.string op.nm) (.string op.to_) (.slice op.ba op.bs.length op.bc) (.int .i64 op.n) (.slice op.ka op.ks.length op.kc) 57
  have hwB : B ≤ w.heap.size := Nat.le_trans hB h.below.size
  have ho1 := ho.below hb1 hwB
  have k1 := h.on hb1
  have hfar : ∀ {a : Option Addr} {n c : Nat} {bs : List Nat}, Sl w B a n c bs → 0 < n → ∀ k o, a = some ⟨k, o, none⟩ → ¬ O k := fun hs hp k o e hO => by
    obtain ⟨b', o', e', hlt, _⟩ := hs.at_ hp
    rw [e] at e'
    injection e' with e'
    injection e' with e1 e2
    have := h.base k hO
    omega
  have hfar2 : ∀ {a : Option Addr} {n c m : Nat} {cs : Nat → Value}, Row w B a n c m cs → 0 < n → ∀ k o, a = some ⟨k, o, none⟩ → ¬ O k := fun hs hp k o e hO => by
    obtain ⟨b', o', e', hlt, _⟩ := hs.at_ hp
    rw [e] at e'
    injection e' with e'
    injection e' with e1 e2
    have := h.base k hO
    omega
  have CS := Lib.hid (k1.sync op.nm (by have := ho.nm_; omega))
  have CR := Lib.hid (k1.rename op.nm op.to_ (by have := ho.nm_; omega) (by have := ho.to__; omega))
  have CD := Lib.hid (k1.delete op.nm (by have := ho.nm_; omega))
  have CF := Lib.hid (k1.fuse op.n ho.n_.2)
  have CL := Lib.hid (k1.fail op.n ho.n_.2)
  have CC := Lib.hid (k1.crash op.ks op.ka op.ks.length op.kc ((ho.row.below hb1 hwB).more (by simp <;> omega)) rfl (hfar2 ho.row))
  have CW := Lib.hid (k1.write op.nm (by have := ho.nm_; omega) op.ba op.bs.length op.bc op.bs ((ho.sl.below hb1 hwB).more (by simp <;> omega)) ho.bs_ (hfar ho.sl))
  have HB := Lib.hid hb1
  have HD : Hid (t.do_ op = if op.what = 3 ∨ op.what = 4 then t.sync op.nm.data.toList else if op.what = 5 then t.rename op.nm.data.toList op.to_.data.toList else if op.what = 6 then t.delete op.nm.data.toList else if op.what = 7 then (0, t.fuse_ op.n) else if op.what = 8 then (0, t.fail_ op.n) else if op.what = 9 then (0, t.crash op.ks) else t.write op.nm.data.toList op.bs) := rfl
  clear hb1 ho1 k1 hfar hfar2 ho h
  generalize t.do_ op = r at *
  show Calls Tryz.prog 24 #[.pointer (some ⟨dp, 0, none⟩), .agg #[.int .i64 op.what, .string op.nm, .string op.to_, .slice op.ba op.bs.length op.bc, .int .i64 op.n, .slice op.ka op.ks.length op.kc]] w _
  generalize op.what = what at *
  by_cases h3 : what = 3
  · have hr : r = t.sync op.nm.data.toList := HD.out.trans (by rw [if_pos (by omega)])
    subst hr h3
    clear HD
    go_enter Tryz.func24, Tryz.ntmps24
    go_wp2_with fail
    refine CS.out.mono ?_
    rintro e w' ⟨rfl, hmv⟩
    have HM := Lib.hid (hmv.before HB.out)
    clear hmv
    go_wp2
    go_ret
    exact ⟨rfl, HM.out⟩
  by_cases h4 : what = 4
  · have hr : r = t.sync op.nm.data.toList := HD.out.trans (by rw [if_pos (by omega)])
    subst hr h4
    clear HD
    go_enter Tryz.func24, Tryz.ntmps24
    go_wp2_with fail
    refine CS.out.mono ?_
    rintro e w' ⟨rfl, hmv⟩
    have HM := Lib.hid (hmv.before HB.out)
    clear hmv
    go_wp2
    go_ret
    exact ⟨rfl, HM.out⟩
  by_cases h5 : what = 5
  · have hr : r = t.rename op.nm.data.toList op.to_.data.toList := HD.out.trans (by rw [if_neg (by omega), if_pos (by omega)])
    subst hr h5
    clear HD
    go_enter Tryz.func24, Tryz.ntmps24
    go_wp2_with fail
    refine CR.out.mono ?_
    rintro e w' ⟨rfl, hmv⟩
    have HM := Lib.hid (hmv.before HB.out)
    clear hmv
    go_wp2
    go_ret
    exact ⟨rfl, HM.out⟩
  by_cases h6 : what = 6
  · have hr : r = t.delete op.nm.data.toList := HD.out.trans (by rw [if_neg (by omega), if_neg (by omega), if_pos (by omega)])
    subst hr h6
    clear HD
    go_enter Tryz.func24, Tryz.ntmps24
    go_wp2_with fail
    refine CD.out.mono ?_
    rintro e w' ⟨rfl, hmv⟩
    have HM := Lib.hid (hmv.before HB.out)
    clear hmv
    go_wp2
    go_ret
    exact ⟨rfl, HM.out⟩
  by_cases h7 : what = 7
  · have hr : r = (0, t.fuse_ op.n) := HD.out.trans (by rw [if_neg (by omega), if_neg (by omega), if_neg (by omega), if_pos (by omega)])
    subst hr h7
    clear HD
    go_enter Tryz.func24, Tryz.ntmps24
    go_wp2_with fail
    refine CF.out.mono ?_
    rintro e w' ⟨rfl, hmv⟩
    have HM := Lib.hid (hmv.before HB.out)
    clear hmv
    go_wp2
    go_ret
    exact ⟨rfl, HM.out⟩
  by_cases h8 : what = 8
  · have hr : r = (0, t.fail_ op.n) := HD.out.trans (by rw [if_neg (by omega), if_neg (by omega), if_neg (by omega), if_neg (by omega), if_pos (by omega)])
    subst hr h8
    clear HD
    go_enter Tryz.func24, Tryz.ntmps24
    go_wp2_with fail
    refine CL.out.mono ?_
    rintro e w' ⟨rfl, hmv⟩
    have HM := Lib.hid (hmv.before HB.out)
    clear hmv
    go_wp2
    go_ret
    exact ⟨rfl, HM.out⟩
  by_cases h9 : what = 9
  · have hr : r = (0, t.crash op.ks) := HD.out.trans (by rw [if_neg (by omega), if_neg (by omega), if_neg (by omega), if_neg (by omega), if_neg (by omega), if_pos (by omega)])
    subst hr h9
    clear HD
    go_enter Tryz.func24, Tryz.ntmps24
    go_wp2_with fail
    refine CC.out.mono ?_
    rintro e w' ⟨rfl, hmv⟩
    have HM := Lib.hid (hmv.before HB.out)
    clear hmv
    go_wp2
    go_ret
    exact ⟨rfl, HM.out⟩
  have hr : r = t.write op.nm.data.toList op.bs := HD.out.trans (by rw [if_neg (by omega), if_neg (by omega), if_neg (by omega), if_neg (by omega), if_neg (by omega), if_neg (by omega)])
  subst hr
  clear HD
  go_enter Tryz.func24, Tryz.ntmps24
  go_wp2_with fail
  refine CW.out.mono ?_
  rintro e w' ⟨rfl, hmv⟩
  have HM := Lib.hid (hmv.before HB.out)
  clear hmv
  go_wp2
  go_ret
  exact ⟨rfl, HM.out⟩
end
/-- Are there few? -/
def Few (w : World) (len : Nat) (e : Ending) (w' : World) : Prop := ∃ g : Bool, e = .returned (.bool g) ∧ (g = false → len ≤ 300) ∧ Below w.heap.size w w'
set_option linter.unusedSimpArgs false in
set_option maxRecDepth 100000 in
set_option maxHeartbeats 3200000 in
theorem great_any (a : Option Addr) (len cap : Nat) (l : List OpV) (w : World) (ho : OpsIn w w.heap.size a len cap l) (hlz : len ≤ 140737488351232) : Calls Tryz.prog 23 #[.slice a len cap] w (Few w len) := by
  have hle := ho.le
  have hln := ho.length
  have HO := Lib.hid ho
  clear ho
  go_enter Tryz.func23, Tryz.ntmps23
  go_wp2_with fail
  go_loopw [3, 4] (fun n i wr => ∃ k N : Nat, k ≤ len ∧ i = .int .i64 (k : Int) ∧ n = .int .i64 (N : Int) ∧ (N ≤ 56000 ∨ N = len) ∧ Below w.heap.size w wr) (fun _ i _ => len - (intOf i).toNat)
  case atStart => exact ⟨0, len, Nat.zero_le _, rfl, rfl, .inr rfl, Below.refl _ _⟩
  case round =>
    obtain ⟨k, N, hk, rfl, rfl, hN, hnx⟩ := hrel
    by_cases hc : k < len ∧ N < 20000
    · obtain ⟨hlt, hN2⟩ := hc
      have d1 : decide ((k : Int) < (len : Int)) = true := by simp; omega
      have d2 : decide ((N : Int) < 20000) = true := by simp; omega
      obtain ⟨b, o, rfl, hb, hcell⟩ := HO.out.at_ (by omega)
      obtain ⟨op, hop⟩ : ∃ op, l[k]? = some op := ⟨_, List.getElem?_eq_getElem (by omega)⟩
      obtain ⟨⟨_, c1, c2, c3, _, c5⟩, hi⟩ := hcell k op hop
      have e1 := (hnx.cell (p := ⟨b, o + k * 6 + 1, none⟩) hb).trans c1
      have e2 := (hnx.cell (p := ⟨b, o + k * 6 + 2, none⟩) hb).trans c2
      have e3 := (hnx.cell (p := ⟨b, o + k * 6 + 3, none⟩) hb).trans c3
      have e5 := (hnx.cell (p := ⟨b, o + k * 6 + 5, none⟩) hb).trans c5
      have m1 := fun (x : World) => min2i_any (op.nm.size : Int) 9000 x
      have m2 := fun (x : World) => min2i_any (op.to_.size : Int) 9000 x
      have m3 := fun (x : World) => min2i_any (op.bs.length : Int) 9000 x
      have m5 := fun (x : World) => min2i_any (op.ks.length : Int) 9000 x
      obtain ⟨z1, hz1⟩ : ∃ z, z = min op.nm.size 9000 := ⟨_, rfl⟩
      obtain ⟨z2, hz2⟩ : ∃ z, z = min op.to_.size 9000 := ⟨_, rfl⟩
      obtain ⟨z3, hz3⟩ : ∃ z, z = min op.bs.length 9000 := ⟨_, rfl⟩
      obtain ⟨z5, hz5⟩ : ∃ z, z = min op.ks.length 9000 := ⟨_, rfl⟩
      rw [show min (op.nm.size : Int) 9000 = (z1 : Int) from by omega] at m1
      rw [show min (op.to_.size : Int) 9000 = (z2 : Int) from by omega] at m2
      rw [show min (op.bs.length : Int) 9000 = (z3 : Int) from by omega] at m3
      rw [show min (op.ks.length : Int) 9000 = (z5 : Int) from by omega] at m5
      have b1 : z1 ≤ 9000 := by omega
      have b2 : z2 ≤ 9000 := by omega
      have b3 : z3 ≤ 9000 := by omega
      have b5 : z5 ≤ 9000 := by omega
      have w1 : IntKind.i64.wrap ((N : Int) + (z1 : Int)) = ((N + z1 : Nat) : Int) := by rw [IntKind.wrap_i64]; omega
      have w2 : IntKind.i64.wrap (((N + z1 : Nat) : Int) + (z2 : Int)) = ((N + z1 + z2 : Nat) : Int) := by rw [IntKind.wrap_i64]; omega
      have w3 : IntKind.i64.wrap (((N + z1 + z2 : Nat) : Int) + (z3 : Int)) = ((N + z1 + z2 + z3 : Nat) : Int) := by rw [IntKind.wrap_i64]; omega
      have w5 : IntKind.i64.wrap (((N + z1 + z2 + z3 : Nat) : Int) + (z5 : Int)) = ((N + z1 + z2 + z3 + z5 : Nat) : Int) := by rw [IntKind.wrap_i64]; omega
      have HX := Lib.hid (And.intro hnx (show N + z1 + z2 + z3 + z5 ≤ 56000 by omega))
      clear hz1 hz2 hz3 hz5 hnx hcell c1 c2 c3 c5 hop hi hN
      generalize N + z1 + z2 + z3 + z5 = N5 at *
      generalize N + z1 + z2 + z3 = N3 at *
      generalize N + z1 + z2 = N2 at *
      generalize N + z1 = N1 at *
      go_wp2_with fail
      refine wp_region_held_drew (S := fun x => x.cell? ⟨b, o + k * 6 + 1, none⟩ = some (.string op.nm) ∧ x.cell? ⟨b, o + k * 6 + 2, none⟩ = some (.string op.to_) ∧ x.cell? ⟨b, o + k * 6 + 3, none⟩ = some (.slice op.ba op.bs.length op.bc) ∧ x.cell? ⟨b, o + k * 6 + 5, none⟩ = some (.slice op.ka op.ks.length op.kc)) (by kernel_rfl) ⟨e1, e2, e3, e5⟩ (fun hHeld => ?_)
      refine wpAnyH_take (i := 0) (v := ?_) rfl (by kernel_rfl) (by kernel_rfl) (by kernel_rfl) (fun _ _ _ h => h) (Or.inl ⟨by rfl, ?_⟩) (by assumption) ?_
      rotate_left
      · intro w hSw
        (try dsimp only at hSw)
        go_simp
        all_goals with_reducible rfl
      try simp only [Act.put, List.getElem_toArray, List.getElem_cons_succ, List.getElem_cons_zero, List.setIfInBounds_toArray, List.set_cons_zero, List.set_cons_succ]
      refine wpAnyH_take (i := 1) (v := ?_) rfl (by kernel_rfl) (by kernel_rfl) (by kernel_rfl) (fun _ _ _ h => h) (Or.inl ⟨by rfl, ?_⟩) (by assumption) ?_
      rotate_left
      · intro w hSw
        (try dsimp only at hSw)
        go_simp
        all_goals with_reducible rfl
      try simp only [Act.put, List.getElem_toArray, List.getElem_cons_succ, List.getElem_cons_zero, List.setIfInBounds_toArray, List.set_cons_zero, List.set_cons_succ]
      refine wpAnyH_take (i := 2) (v := ?_) rfl (by kernel_rfl) (by kernel_rfl) (by kernel_rfl) (fun _ _ _ h => h) (Or.inl ⟨by rfl, ?_⟩) (by assumption) ?_
      rotate_left
      · intro w hSw
        (try dsimp only at hSw)
        go_simp
        all_goals with_reducible rfl
      try simp only [Act.put, List.getElem_toArray, List.getElem_cons_succ, List.getElem_cons_zero, List.setIfInBounds_toArray, List.set_cons_zero, List.set_cons_succ]
      refine wpAnyH_take (i := 3) (v := ?_) rfl (by kernel_rfl) (by kernel_rfl) (by kernel_rfl) (fun _ _ _ h => h) (Or.inl ⟨by rfl, ?_⟩) (by assumption) ?_
      rotate_left
      · intro w hSw
        (try dsimp only at hSw)
        go_simp
        all_goals with_reducible rfl
      try simp only [Act.put, List.getElem_toArray, List.getElem_cons_succ, List.getElem_cons_zero, List.setIfInBounds_toArray, List.set_cons_zero, List.set_cons_succ]
      refine wpAnyH_take (i := 4) (v := ?_) rfl (by kernel_rfl) (by kernel_rfl) (by kernel_rfl) (fun _ _ _ h => h) (Or.inl ⟨by rfl, ?_⟩) (by assumption) ?_
      rotate_left
      · intro w hSw
        (try dsimp only at hSw)
        go_simp
        all_goals with_reducible rfl
      try simp only [Act.put, List.getElem_toArray, List.getElem_cons_succ, List.getElem_cons_zero, List.setIfInBounds_toArray, List.set_cons_zero, List.set_cons_succ]
      refine wpAnyH_take (i := 5) (v := ?_) rfl (by kernel_rfl) (by kernel_rfl) (by kernel_rfl) (fun _ _ _ h => h) (Or.inl ⟨by rfl, ?_⟩) (by assumption) ?_
      rotate_left
      · intro w hSw
        (try dsimp only at hSw)
        go_simp
        all_goals with_reducible rfl
      try simp only [Act.put, List.getElem_toArray, List.getElem_cons_succ, List.getElem_cons_zero, List.setIfInBounds_toArray, List.set_cons_zero, List.set_cons_succ]
      refine wpAnyH_take (i := 6) (v := ?_) rfl (by kernel_rfl) (by kernel_rfl) (by kernel_rfl) (fun _ _ _ h => h) (Or.inl ⟨by rfl, ?_⟩) (by assumption) ?_
      rotate_left
      · intro w hSw
        (try dsimp only at hSw)
        go_simp
        all_goals with_reducible rfl
      try simp only [Act.put, List.getElem_toArray, List.getElem_cons_succ, List.getElem_cons_zero, List.setIfInBounds_toArray, List.set_cons_zero, List.set_cons_succ]
      refine wpAnyH_take (i := 7) (v := ?_) rfl (by kernel_rfl) (by kernel_rfl) (by kernel_rfl) (fun _ _ _ h => h) (Or.inl ⟨by rfl, ?_⟩) (by assumption) ?_
      rotate_left
      · intro w hSw
        (try dsimp only at hSw)
        go_simp
        all_goals with_reducible rfl
      try simp only [Act.put, List.getElem_toArray, List.getElem_cons_succ, List.getElem_cons_zero, List.setIfInBounds_toArray, List.set_cons_zero, List.set_cons_succ]
      refine wpAnyH_take (i := 8) (v := ?_) rfl (by kernel_rfl) (by kernel_rfl) (by kernel_rfl) (fun _ _ _ h => h) (Or.inl ⟨by rfl, ?_⟩) (by assumption) ?_
      rotate_left
      · intro w hSw
        (try dsimp only at hSw)
        go_simp
        all_goals with_reducible rfl
      try simp only [Act.put, List.getElem_toArray, List.getElem_cons_succ, List.getElem_cons_zero, List.setIfInBounds_toArray, List.set_cons_zero, List.set_cons_succ]
      refine wpAnyH_take (i := 9) (v := ?_) rfl (by kernel_rfl) (by kernel_rfl) (by kernel_rfl) (fun _ _ _ h => h) (Or.inl ⟨by rfl, ?_⟩) (by assumption) ?_
      rotate_left
      · intro w hSw
        (try dsimp only at hSw)
        go_simp
        all_goals with_reducible rfl
      try simp only [Act.put, List.getElem_toArray, List.getElem_cons_succ, List.getElem_cons_zero, List.setIfInBounds_toArray, List.set_cons_zero, List.set_cons_succ]
      refine wpAnyH_take (i := 10) (v := ?_) rfl (by kernel_rfl) (by kernel_rfl) (by kernel_rfl) (fun _ _ _ h => h) (Or.inl ⟨by rfl, ?_⟩) (by assumption) ?_
      rotate_left
      · intro w hSw
        (try dsimp only at hSw)
        go_simp
        all_goals with_reducible rfl
      try simp only [Act.put, List.getElem_toArray, List.getElem_cons_succ, List.getElem_cons_zero, List.setIfInBounds_toArray, List.set_cons_zero, List.set_cons_succ]
      refine wpAnyH_take (i := 11) (v := ?_) rfl (by kernel_rfl) (by kernel_rfl) (by kernel_rfl) (fun _ _ _ h => h) (Or.inl ⟨by rfl, ?_⟩) (by assumption) ?_
      rotate_left
      · intro w hSw
        (try dsimp only at hSw)
        go_simp
        all_goals with_reducible rfl
      try simp only [Act.put, List.getElem_toArray, List.getElem_cons_succ, List.getElem_cons_zero, List.setIfInBounds_toArray, List.set_cons_zero, List.set_cons_succ]
      refine wpAnyH_take (i := 12) (v := ?_) rfl (by kernel_rfl) (by kernel_rfl) (by kernel_rfl) (fun _ _ _ h => h) (Or.inl ⟨by rfl, ?_⟩) (by assumption) ?_
      rotate_left
      · intro w hSw
        (try dsimp only at hSw)
        go_simp
        all_goals with_reducible rfl
      try simp only [Act.put, List.getElem_toArray, List.getElem_cons_succ, List.getElem_cons_zero, List.setIfInBounds_toArray, List.set_cons_zero, List.set_cons_succ]
      refine wpAnyH_take (i := 13) (v := ?_) rfl (by kernel_rfl) (by kernel_rfl) (by kernel_rfl) (fun _ _ _ h => h) (Or.inl ⟨by rfl, ?_⟩) (by assumption) ?_
      rotate_left
      · intro w hSw
        (try dsimp only at hSw)
        go_simp
        all_goals with_reducible rfl
      try simp only [Act.put, List.getElem_toArray, List.getElem_cons_succ, List.getElem_cons_zero, List.setIfInBounds_toArray, List.set_cons_zero, List.set_cons_succ]
      refine wpAnyH_take (i := 14) (v := ?_) rfl (by kernel_rfl) (by kernel_rfl) (by kernel_rfl) (fun _ _ _ h => h) (Or.inl ⟨by rfl, ?_⟩) (by assumption) ?_
      rotate_left
      · intro w hSw
        (try dsimp only at hSw)
        go_simp
        all_goals with_reducible rfl
      try simp only [Act.put, List.getElem_toArray, List.getElem_cons_succ, List.getElem_cons_zero, List.setIfInBounds_toArray, List.set_cons_zero, List.set_cons_succ]
      refine wpAnyH_take (i := 15) (v := ?_) rfl (by kernel_rfl) (by kernel_rfl) (by kernel_rfl) (fun _ _ _ h => h) (Or.inl ⟨by rfl, ?_⟩) (by assumption) ?_
      rotate_left
      · intro w hSw
        (try dsimp only at hSw)
        go_simp
        all_goals with_reducible rfl
      try simp only [Act.put, List.getElem_toArray, List.getElem_cons_succ, List.getElem_cons_zero, List.setIfInBounds_toArray, List.set_cons_zero, List.set_cons_succ]
      refine wpAnyH_take (i := 16) (v := ?_) rfl (by kernel_rfl) (by kernel_rfl) (by kernel_rfl) (fun _ _ _ h => h) (Or.inl ⟨by rfl, ?_⟩) (by assumption) ?_
      rotate_left
      · intro w hSw
        (try dsimp only at hSw)
        go_simp
        all_goals with_reducible rfl
      try simp only [Act.put, List.getElem_toArray, List.getElem_cons_succ, List.getElem_cons_zero, List.setIfInBounds_toArray, List.set_cons_zero, List.set_cons_succ]
      refine wpAnyH_take (i := 17) (v := ?_) rfl (by kernel_rfl) (by kernel_rfl) (by kernel_rfl) (fun _ _ _ h => h) (Or.inl ⟨by rfl, ?_⟩) (by assumption) ?_
      rotate_left
      · intro w hSw
        (try dsimp only at hSw)
        go_simp
        all_goals with_reducible rfl
      try simp only [Act.put, List.getElem_toArray, List.getElem_cons_succ, List.getElem_cons_zero, List.setIfInBounds_toArray, List.set_cons_zero, List.set_cons_succ]
      refine wpAnyH_take (i := 18) (v := ?_) rfl (by kernel_rfl) (by kernel_rfl) (by kernel_rfl) (fun _ _ _ h => h) (Or.inl ⟨by rfl, ?_⟩) (by assumption) ?_
      rotate_left
      · intro w hSw
        (try dsimp only at hSw)
        go_simp
        all_goals with_reducible rfl
      try simp only [Act.put, List.getElem_toArray, List.getElem_cons_succ, List.getElem_cons_zero, List.setIfInBounds_toArray, List.set_cons_zero, List.set_cons_succ]
      refine wpAnyH_take (i := 19) (v := ?_) rfl (by kernel_rfl) (by kernel_rfl) (by kernel_rfl) (fun _ _ _ h => h) (Or.inl ⟨by rfl, ?_⟩) (by assumption) ?_
      rotate_left
      · intro w hSw
        (try dsimp only at hSw)
        go_simp
        all_goals with_reducible rfl
      try simp only [Act.put, List.getElem_toArray, List.getElem_cons_succ, List.getElem_cons_zero, List.setIfInBounds_toArray, List.set_cons_zero, List.set_cons_succ]
      refine wpAnyH_take (i := 20) (v := ?_) rfl (by kernel_rfl) (by kernel_rfl) (by kernel_rfl) (fun _ _ _ h => h) (Or.inl ⟨by rfl, ?_⟩) (by assumption) ?_
      rotate_left
      · intro w hSw
        (try dsimp only at hSw)
        go_simp
        all_goals with_reducible rfl
      try simp only [Act.put, List.getElem_toArray, List.getElem_cons_succ, List.getElem_cons_zero, List.setIfInBounds_toArray, List.set_cons_zero, List.set_cons_succ]
      refine wpAnyH_take (i := 21) (v := ?_) rfl (by kernel_rfl) (by kernel_rfl) (by kernel_rfl) (fun _ _ _ h => h) (Or.inl ⟨by rfl, ?_⟩) (by assumption) ?_
      rotate_left
      · intro w hSw
        (try dsimp only at hSw)
        go_simp
        all_goals with_reducible rfl
      try simp only [Act.put, List.getElem_toArray, List.getElem_cons_succ, List.getElem_cons_zero, List.setIfInBounds_toArray, List.set_cons_zero, List.set_cons_succ]
      refine wpAnyH_take (i := 22) (v := ?_) rfl (by kernel_rfl) (by kernel_rfl) (by kernel_rfl) (fun _ _ _ h => h) (Or.inl ⟨by rfl, ?_⟩) (by assumption) ?_
      rotate_left
      · intro w hSw
        (try dsimp only at hSw)
        go_simp
        all_goals with_reducible rfl
      try simp only [Act.put, List.getElem_toArray, List.getElem_cons_succ, List.getElem_cons_zero, List.setIfInBounds_toArray, List.set_cons_zero, List.set_cons_succ]
      refine wpAnyH_take (i := 23) (v := ?_) rfl (by kernel_rfl) (by kernel_rfl) (by kernel_rfl) (fun _ _ _ h => h) (Or.inl ⟨by rfl, ?_⟩) (by assumption) ?_
      rotate_left
      · intro w hSw
        (try dsimp only at hSw)
        go_simp
        all_goals with_reducible rfl
      try simp only [Act.put, List.getElem_toArray, List.getElem_cons_succ, List.getElem_cons_zero, List.setIfInBounds_toArray, List.set_cons_zero, List.set_cons_succ]
      refine wpAnyH_take (i := 24) (v := ?_) rfl (by kernel_rfl) (by kernel_rfl) (by kernel_rfl) (fun _ _ _ h => h) (Or.inl ⟨by rfl, ?_⟩) (by assumption) ?_
      rotate_left
      · intro w hSw
        (try dsimp only at hSw)
        go_simp
        all_goals with_reducible rfl
      try simp only [Act.put, List.getElem_toArray, List.getElem_cons_succ, List.getElem_cons_zero, List.setIfInBounds_toArray, List.set_cons_zero, List.set_cons_succ]
      refine wpAnyH_take (i := 25) (v := ?_) rfl (by kernel_rfl) (by kernel_rfl) (by kernel_rfl) (fun _ _ _ h => h) (Or.inl ⟨by rfl, ?_⟩) (by assumption) ?_
      rotate_left
      · intro w hSw
        (try dsimp only at hSw)
        go_simp
        all_goals with_reducible rfl
      try simp only [Act.put, List.getElem_toArray, List.getElem_cons_succ, List.getElem_cons_zero, List.setIfInBounds_toArray, List.set_cons_zero, List.set_cons_succ]
      refine wpAnyH_take (i := 26) (v := ?_) rfl (by kernel_rfl) (by kernel_rfl) (by kernel_rfl) (fun _ _ _ h => h) (Or.inl ⟨by rfl, ?_⟩) (by assumption) ?_
      rotate_left
      · intro w hSw
        (try dsimp only at hSw)
        go_simp
        all_goals with_reducible rfl
      try simp only [Act.put, List.getElem_toArray, List.getElem_cons_succ, List.getElem_cons_zero, List.setIfInBounds_toArray, List.set_cons_zero, List.set_cons_succ]
      refine wpAnyH_take (i := 27) (v := ?_) rfl (by kernel_rfl) (by kernel_rfl) (by kernel_rfl) (fun _ _ _ h => h) (Or.inl ⟨by rfl, ?_⟩) (by assumption) ?_
      rotate_left
      · intro w hSw
        (try dsimp only at hSw)
        go_simp
        all_goals with_reducible rfl
      try simp only [Act.put, List.getElem_toArray, List.getElem_cons_succ, List.getElem_cons_zero, List.setIfInBounds_toArray, List.set_cons_zero, List.set_cons_succ]
      refine wpAnyH_take (i := 28) (v := ?_) rfl (by kernel_rfl) (by kernel_rfl) (by kernel_rfl) (fun _ _ _ h => h) (Or.inl ⟨by rfl, ?_⟩) (by assumption) ?_
      rotate_left
      · intro w hSw
        (try dsimp only at hSw)
        go_simp
        all_goals with_reducible rfl
      try simp only [Act.put, List.getElem_toArray, List.getElem_cons_succ, List.getElem_cons_zero, List.setIfInBounds_toArray, List.set_cons_zero, List.set_cons_succ]
      refine wpAnyH_take (i := 29) (v := ?_) rfl (by kernel_rfl) (by kernel_rfl) (by kernel_rfl) (fun _ _ _ h => h) (Or.inl ⟨by rfl, ?_⟩) (by assumption) ?_
      rotate_left
      · intro w hSw
        (try dsimp only at hSw)
        go_simp
        all_goals with_reducible rfl
      try simp only [Act.put, List.getElem_toArray, List.getElem_cons_succ, List.getElem_cons_zero, List.setIfInBounds_toArray, List.set_cons_zero, List.set_cons_succ]
      refine wpAnyH_take (i := 30) (v := ?_) rfl (by kernel_rfl) (by kernel_rfl) (by kernel_rfl) (fun _ _ _ h => h) (Or.inl ⟨by rfl, ?_⟩) (by assumption) ?_
      rotate_left
      · intro w hSw
        (try dsimp only at hSw)
        go_simp
        all_goals with_reducible rfl
      try simp only [Act.put, List.getElem_toArray, List.getElem_cons_succ, List.getElem_cons_zero, List.setIfInBounds_toArray, List.set_cons_zero, List.set_cons_succ]
      refine wpAnyH_take (i := 31) (v := ?_) rfl (by kernel_rfl) (by kernel_rfl) (by kernel_rfl) (fun _ _ _ h => h) (Or.inl ⟨by rfl, ?_⟩) (by assumption) ?_
      rotate_left
      · intro w hSw
        (try dsimp only at hSw)
        go_simp
        all_goals with_reducible rfl
      try simp only [Act.put, List.getElem_toArray, List.getElem_cons_succ, List.getElem_cons_zero, List.setIfInBounds_toArray, List.set_cons_zero, List.set_cons_succ]
      refine wpAnyH_take (i := 32) (v := ?_) rfl (by kernel_rfl) (by kernel_rfl) (by kernel_rfl) (fun _ _ _ h => h) (Or.inl ⟨by rfl, ?_⟩) (by assumption) ?_
      rotate_left
      · intro w hSw
        (try dsimp only at hSw)
        go_simp
        all_goals with_reducible rfl
      try simp only [Act.put, List.getElem_toArray, List.getElem_cons_succ, List.getElem_cons_zero, List.setIfInBounds_toArray, List.set_cons_zero, List.set_cons_succ]
      refine wpAnyH_take (i := 33) (v := ?_) rfl (by kernel_rfl) (by kernel_rfl) (by kernel_rfl) (fun _ _ _ h => h) (Or.inl ⟨by rfl, ?_⟩) (by assumption) ?_
      rotate_left
      · intro w hSw
        (try dsimp only at hSw)
        go_simp
        all_goals with_reducible rfl
      try simp only [Act.put, List.getElem_toArray, List.getElem_cons_succ, List.getElem_cons_zero, List.setIfInBounds_toArray, List.set_cons_zero, List.set_cons_succ]
      refine wpAnyH_done (by kernel_rfl) ?_ _
      clear hHeld
      go_wp2
      go_roundw
      case rel => exact ⟨k + 1, N5, by omega, by go_num, rfl, .inl HX.out.2, Below.drew HX.out.1⟩
      case measure => simp [intOf]; omega
    · have HX := Lib.hid hnx
      clear hnx hN
      by_cases hkl : k < len
      · have hN2 : ¬ N < 20000 := fun h => hc ⟨hkl, h⟩
        clear hc
        have d1 : decide ((k : Int) < (len : Int)) = true := by simp; omega
        have d2 : decide ((N : Int) < 20000) = false := by simp; omega
        go_wp2
        all_goals
          go_ret
          exact ⟨_, rfl, fun h => (by first | (simp at h; done) | (simp at h; omega)), HX.out⟩
      · clear hc
        have d1 : decide ((k : Int) < (len : Int)) = false := by simp; omega
        go_wp2
        all_goals
          go_ret
          exact ⟨_, rfl, fun h => (by first | (simp at h; done) | (simp at h; omega)), HX.out⟩
end
section
set_option linter.unusedSimpArgs false
set_option linter.unusedVariables false
open Go.RowKit Go.Sort
open Go.Maps
attribute [local go_sem] Oper.semAt_some

abbrev strC (l : List (List UInt8)) (j : Nat) : Value := Go.Proofs.encStr (l.getD j [])
theorem NewNames.out {w w' : World} {l : List (List UInt8)} {e : Ending} (h : NewNames w l e w') : ∃ g c, e = .returned (.slice (some ⟨g, 0, none⟩) l.length c) ∧ Row w' w'.heap.size (some ⟨g, 0, none⟩) l.length c 1 (strC l) ∧ w.heap.size ≤ g ∧ Below w.heap.size w w' := by
  obtain ⟨g, c, he, ho, hb⟩ := h
  have hg : w.heap.size ≤ g ∧ g < w'.heap.size ∧ l.length ≤ c ∧ c ≤ maxLen := by
    rcases ho.2 with ⟨h', _⟩ | ⟨g', cap', cur, h', h1, h2, h3, h4, _⟩
    · cases h'
    · injection h' with h' h5 h6
      injection h' with h'
      injection h' with h'
      subst h' h6
      exact ⟨h1, lt_of_heap h2, h3, h4⟩
  refine ⟨g, c, he, ⟨hg.2.2.1, hg.2.2.2, fun _ => ⟨g, 0, rfl, hg.2.1, fun j hj => ?_⟩⟩, hg.1, hb⟩
  rw [Nat.zero_add, ho.cellAt j (by omega), List.getElem?_map, List.getElem?_eq_getElem (by omega)]
  simp only [strC, List.getD_eq_getElem?_getD, List.getElem?_eq_getElem (show j < l.length by omega)]
  rfl
set_option linter.unusedSimpArgs false in
set_option maxRecDepth 100000 in
set_option maxHeartbeats 1600000 in
/-- The same names. -/
theorem sameStr_any (l : List (List UInt8)) (a1 a2 : Option Addr) (c1 c2 : Nat) (w : World) (h1 : Row w w.heap.size a1 l.length c1 1 (strC l)) (h2 : Row w w.heap.size a2 l.length c2 1 (strC l)) :
    Calls Tryz.prog 31 #[.slice a1 l.length c1, .slice a2 l.length c2] w fun e w' => e = .returned (.bool true) ∧ Below w.heap.size w w' := by
  have m1 := h1.le
  have m2 := h1.max
  unfold maxLen at m2
  have HH := Lib.hid (And.intro h1 h2)
  clear h1 h2
  generalize hn : l.length = n at *
  have Hn := Lib.hid hn
  clear hn
  go_enter Tryz.func31, Tryz.ntmps31
  go_wp2_with fail
  go_loopw [5] (fun i wr => ∃ k : Nat, k ≤ n ∧ i = .int .i64 (k : Int) ∧ Below w.heap.size w wr) (fun i _ => n - (intOf i).toNat)
  case atStart => exact ⟨0, Nat.zero_le _, rfl, Below.refl _ _⟩
  case round =>
    obtain ⟨k, hk, rfl, hnx⟩ := hrel
    by_cases hlt : k < n
    · obtain ⟨b1, o1, rfl, hb1, hc1⟩ := HH.out.1.at_ (by omega)
      obtain ⟨b2, o2, rfl, hb2, hc2⟩ := HH.out.2.at_ (by omega)
      have e1 := (hnx.cell (p := ⟨b1, o1 + k, none⟩) hb1).trans (hc1 k (by omega))
      have e2 := (hnx.cell (p := ⟨b2, o2 + k, none⟩) hb2).trans (hc2 k (by omega))
      simp only [strC] at e1 e2
      generalize l.getD k [] = s at *
      have HX := Lib.hid hnx
      clear hnx hc1 hc2
      go_wp2_with fail
      refine wp_region_held_drew (S := fun x => x.cell? ⟨b1, o1 + k, none⟩ = some (.string ⟨s.toArray⟩) ∧ x.cell? ⟨b2, o2 + k, none⟩ = some (.string ⟨s.toArray⟩)) (by kernel_rfl) ⟨e1, e2⟩ (fun hHeld => ?_)
      refine wpAnyH_take (i := 0) (v := ?_) rfl (by kernel_rfl) (by kernel_rfl) (by kernel_rfl) (fun _ _ _ h => h) (Or.inl ⟨by rfl, ?_⟩) (by assumption) ?_
      rotate_left
      · intro w hSw
        (try dsimp only at hSw)
        go_simp
        all_goals with_reducible rfl
      try simp only [Act.put, List.getElem_toArray, List.getElem_cons_succ, List.getElem_cons_zero, List.setIfInBounds_toArray, List.set_cons_zero, List.set_cons_succ]
      refine wpAnyH_take (i := 1) (v := ?_) rfl (by kernel_rfl) (by kernel_rfl) (by kernel_rfl) (fun _ _ _ h => h) (Or.inl ⟨by rfl, ?_⟩) (by assumption) ?_
      rotate_left
      · intro w hSw
        (try dsimp only at hSw)
        go_simp
        all_goals with_reducible rfl
      try simp only [Act.put, List.getElem_toArray, List.getElem_cons_succ, List.getElem_cons_zero, List.setIfInBounds_toArray, List.set_cons_zero, List.set_cons_succ]
      refine wpAnyH_take (i := 2) (v := ?_) rfl (by kernel_rfl) (by kernel_rfl) (by kernel_rfl) (fun _ _ _ h => h) (Or.inl ⟨by rfl, ?_⟩) (by assumption) ?_
      rotate_left
      · intro w hSw
        (try dsimp only at hSw)
        go_simp
        all_goals with_reducible rfl
      try simp only [Act.put, List.getElem_toArray, List.getElem_cons_succ, List.getElem_cons_zero, List.setIfInBounds_toArray, List.set_cons_zero, List.set_cons_succ]
      refine wpAnyH_take (i := 3) (v := ?_) rfl (by kernel_rfl) (by kernel_rfl) (by kernel_rfl) (fun _ _ _ h => h) (Or.inl ⟨by rfl, ?_⟩) (by assumption) ?_
      rotate_left
      · intro w hSw
        (try dsimp only at hSw)
        go_simp
        all_goals with_reducible rfl
      try simp only [Act.put, List.getElem_toArray, List.getElem_cons_succ, List.getElem_cons_zero, List.setIfInBounds_toArray, List.set_cons_zero, List.set_cons_succ]
      refine wpAnyH_take (i := 4) (v := ?_) rfl (by kernel_rfl) (by kernel_rfl) (by kernel_rfl) (fun _ _ _ h => h) (Or.inl ⟨by rfl, ?_⟩) (by assumption) ?_
      rotate_left
      · intro w hSw
        (try dsimp only at hSw)
        go_simp
        all_goals with_reducible rfl
      try simp only [Act.put, List.getElem_toArray, List.getElem_cons_succ, List.getElem_cons_zero, List.setIfInBounds_toArray, List.set_cons_zero, List.set_cons_succ]
      refine wpAnyH_take (i := 5) (v := ?_) rfl (by kernel_rfl) (by kernel_rfl) (by kernel_rfl) (fun _ _ _ h => h) (Or.inl ⟨by rfl, ?_⟩) (by assumption) ?_
      rotate_left
      · intro w hSw
        (try dsimp only at hSw)
        go_simp
        all_goals with_reducible rfl
      try simp only [Act.put, List.getElem_toArray, List.getElem_cons_succ, List.getElem_cons_zero, List.setIfInBounds_toArray, List.set_cons_zero, List.set_cons_succ]
      refine wpAnyH_take (i := 6) (v := ?_) rfl (by kernel_rfl) (by kernel_rfl) (by kernel_rfl) (fun _ _ _ h => h) (Or.inl ⟨by rfl, ?_⟩) (by assumption) ?_
      rotate_left
      · intro w hSw
        (try dsimp only at hSw)
        go_simp
        all_goals with_reducible rfl
      try simp only [Act.put, List.getElem_toArray, List.getElem_cons_succ, List.getElem_cons_zero, List.setIfInBounds_toArray, List.set_cons_zero, List.set_cons_succ]
      refine wpAnyH_take (i := 7) (v := ?_) rfl (by kernel_rfl) (by kernel_rfl) (by kernel_rfl) (fun _ _ _ h => h) (Or.inl ⟨by rfl, ?_⟩) (by assumption) ?_
      rotate_left
      · intro w hSw
        (try dsimp only at hSw)
        go_simp
        all_goals with_reducible rfl
      try simp only [Act.put, List.getElem_toArray, List.getElem_cons_succ, List.getElem_cons_zero, List.setIfInBounds_toArray, List.set_cons_zero, List.set_cons_succ]
      refine wpAnyH_take (i := 8) (v := ?_) rfl (by kernel_rfl) (by kernel_rfl) (by kernel_rfl) (fun _ _ _ h => h) (Or.inl ⟨by rfl, ?_⟩) (by assumption) ?_
      rotate_left
      · intro w hSw
        (try dsimp only at hSw)
        go_simp
        all_goals with_reducible rfl
      try simp only [Act.put, List.getElem_toArray, List.getElem_cons_succ, List.getElem_cons_zero, List.setIfInBounds_toArray, List.set_cons_zero, List.set_cons_succ]
      refine wpAnyH_done (by kernel_rfl) ?_ _
      clear hHeld
      go_wp2
      go_roundw
      case rel => exact ⟨k + 1, by omega, by go_num, Below.drew HX.out⟩
      case measure => simp [intOf]; omega
    · have HX := Lib.hid hnx
      clear hnx
      go_wp2
      go_ret
      exact ⟨rfl, HX.out⟩

theorem do_room (t : St) (op : OpV) : (t.do_ op).2.room = t.room := by
  unfold St.do_ St.sync St.rename St.delete St.write
  repeat' split
  all_goals rfl
theorem sync_err (t : St) (s : List UInt8) : (t.sync s).1 ≠ 0 → (t.sync s).2.D = t.D := by
  unfold St.sync
  split
  · intro _; rfl
  split
  · intro _; rfl
  split
  · intro _; rfl
  · intro h; exact absurd rfl h
theorem delete_err (t : St) (s : List UInt8) : (t.delete s).1 ≠ 0 → (t.delete s).2.D = t.D := by
  unfold St.delete
  split
  · intro _; rfl
  split
  · intro _; rfl
  · intro h; exact absurd rfl h
theorem rename_err (t : St) (s tn : List UInt8) : (t.rename s tn).1 ≠ 0 → (t.rename s tn).2.D = t.D := by
  unfold St.rename
  split
  · intro _; rfl
  split
  · intro _; rfl
  split
  · intro _; rfl
  · intro h; exact absurd rfl h
theorem write_err (t : St) (s : List UInt8) (b : List Nat) : (t.write s b).1 ≠ 0 → (t.write s b).2.D = t.D := by
  unfold St.write
  split
  · intro _; rfl
  split
  · intro _; rfl
  split
  · intro _; rfl
  · intro h; exact absurd rfl h
theorem do_err (t : St) (op : OpV) : (t.do_ op).1 ≠ 0 → (t.do_ op).2.D = t.D := by
  unfold St.do_
  split
  · exact sync_err t _
  split
  · exact rename_err t _ _
  split
  · exact delete_err t _
  split
  · intro h; exact absurd rfl h
  split
  · intro h; exact absurd rfl h
  split
  · intro h; exact absurd rfl h
  · exact write_err t _ _
theorem do_write (t : St) (hG : Good t.D t.room) (op : OpV) (h0 : 0 ≤ op.what) (h3 : op.what < 3) (hr : (t.do_ op).1 = 0) : tot (t.do_ op).2.D = tot t.D + op.bs.length := by
  have e : t.do_ op = t.write op.nm.data.toList op.bs := by
    unfold St.do_
    rw [if_neg (by omega), if_neg (by omega), if_neg (by omega), if_neg (by omega), if_neg (by omega), if_neg (by omega)]
  rw [e] at hr ⊢
  unfold St.write at hr ⊢
  split at hr
  · simp at hr
  split at hr
  · simp at hr
  split at hr
  · simp at hr
  · rename_i h1 h2 h3
    rw [if_neg h1, if_neg h2, if_neg h3]
    show tot (t.D.put _ _) = _
    have := tot_put (canon_tidy hG.canon) (.string op.nm.data.toList) (.held ⟨((fat t.D op.nm.data.toList).getD Fl.zero).bs ++ op.bs, ((fat t.D op.nm.data.toList).getD Fl.zero).l⟩)
    rw [hG.look_] at this
    cases hf : fat t.D op.nm.data.toList with
    | none => rw [hf] at this; simp [lenOf, Fl.zero] at this; simp [Fl.zero, this]
    | some f => rw [hf] at this; simp [lenOf] at this; simp; omega
end
section
namespace Crc
set_option linter.unusedSimpArgs false
set_option linter.unusedVariables false

def P : Nat := 3988292384
def stp (r : Nat) : Nat := r / 2 ^^^ (if r % 2 = 1 then P else 0)
def stpN : Nat → Nat → Nat
  | 0, r => r
  | n + 1, r => stpN n (stp r)
def dn (r : Nat) : Nat := stpN 8 r
/-- One byte, by the table. -/
def byT (r c : Nat) : Nat := dn ((r % 256) ^^^ c) ^^^ (r / 256)
/-- One byte, bit by bit. -/
def byB (r c : Nat) : Nat := stpN 8 (r ^^^ c)
def fold (r : Nat) (bs : List Nat) : Nat := bs.foldl byT r
def neg (r : Nat) : Nat := 4294967295 - r
def more (s : Nat) (bs : List Nat) : Nat := neg (fold (neg s) bs)

theorem xor_div (a b : Nat) : (a ^^^ b) / 2 = (a / 2) ^^^ (b / 2) := by
  have := Nat.xor_div_two_pow (a := a) (b := b) (n := 1)
  simpa using this
theorem xor_mod (a b : Nat) : (a ^^^ b) % 2 = (a % 2 + b % 2) % 2 := by
  have := Nat.xor_mod_two_pow (a := a) (b := b) (n := 1)
  have h : (a ^^^ b) % 2 = (a % 2) ^^^ (b % 2) := by simpa using this
  rw [h]
  rcases Nat.mod_two_eq_zero_or_one a with h1 | h1 <;> rcases Nat.mod_two_eq_zero_or_one b with h2 | h2 <;> simp [h1, h2]
theorem xor_lt {a b : Nat} (n : Nat) (ha : a < 2 ^ n) (hb : b < 2 ^ n) : a ^^^ b < 2 ^ n := Nat.xor_lt_two_pow ha hb
theorem xor_lt32 {a b : Nat} (ha : a < 4294967296) (hb : b < 4294967296) : a ^^^ b < 4294967296 := Nat.xor_lt_two_pow (n := 32) ha hb
theorem xor_lt8 {a b : Nat} (ha : a < 256) (hb : b < 256) : a ^^^ b < 256 := Nat.xor_lt_two_pow (n := 8) ha hb

theorem xor4 (a b c d : Nat) : (a ^^^ b) ^^^ (c ^^^ d) = (a ^^^ c) ^^^ (b ^^^ d) := by
  rw [Nat.xor_assoc, Nat.xor_assoc, ← Nat.xor_assoc b c d, Nat.xor_comm b c, Nat.xor_assoc c b d]

theorem stp_xor (a b : Nat) : stp (a ^^^ b) = stp a ^^^ stp b := by
  unfold stp
  rw [xor_div, xor_mod, xor4]
  congr 1
  rcases Nat.mod_two_eq_zero_or_one a with h1 | h1 <;> rcases Nat.mod_two_eq_zero_or_one b with h2 | h2 <;> simp [h1, h2]
theorem stp_lt {r : Nat} (h : r < 4294967296) : stp r < 4294967296 := by
  unfold stp
  refine xor_lt32 (by omega) ?_
  split <;> simp [P]
theorem stpN_xor (n : Nat) : ∀ a b, stpN n (a ^^^ b) = stpN n a ^^^ stpN n b := by
  induction n with
  | zero => intro a b; rfl
  | succ n ih => intro a b; simp only [stpN]; rw [stp_xor, ih]
theorem stpN_lt (n : Nat) : ∀ {r : Nat}, r < 4294967296 → stpN n r < 4294967296 := by
  induction n with
  | zero => intro r h; exact h
  | succ n ih => intro r h; exact ih (stp_lt h)
theorem stpN_add (m n : Nat) : ∀ r, stpN (m + n) r = stpN n (stpN m r) := by
  induction m with
  | zero => intro r; simp [stpN]
  | succ m ih => intro r; rw [Nat.succ_add]; simp only [stpN]; exact ih _
theorem stpN_last (n r : Nat) : stpN (n + 1) r = stp (stpN n r) := by
  rw [stpN_add n 1]; rfl
theorem stpN_even (n : Nat) : ∀ k, stpN n (2 ^ n * k) = k := by
  induction n with
  | zero => intro k; simp [stpN]
  | succ n ih =>
    intro k
    have h : stp (2 ^ (n + 1) * k) = 2 ^ n * k := by
      unfold stp
      have e : 2 ^ (n + 1) * k = 2 * (2 ^ n * k) := by rw [Nat.pow_succ]; simp [Nat.mul_comm, Nat.mul_left_comm]
      rw [e]
      simp
    simp only [stpN]
    rw [h, ih]
theorem dn_lt {r : Nat} (h : r < 4294967296) : dn r < 4294967296 := stpN_lt 8 h

theorem split256 (r : Nat) : r = (r % 256) ^^^ (256 * (r / 256)) := by
  have h1 : (r % 256) ^^^ (256 * (r / 256)) = (r % 256) ||| (256 * (r / 256)) := by
    apply Nat.eq_of_testBit_eq
    intro i
    rw [Nat.testBit_xor, Nat.testBit_or]
    by_cases hi : i < 8
    · have : (256 * (r / 256)).testBit i = false := by
        rw [show (256 : Nat) * (r / 256) = 2 ^ 8 * (r / 256) from rfl, Nat.testBit_two_pow_mul]
        simp; omega
      rw [this]; simp
    · have : (r % 256).testBit i = false := Nat.testBit_lt_two_pow (Nat.lt_of_lt_of_le (Nat.mod_lt _ (by decide)) (Nat.pow_le_pow_right (n := 2) (by decide) (show 8 ≤ i by omega)))
      rw [this]; simp
  have h2 : (r % 256) ||| (256 * (r / 256)) = 256 * (r / 256) + r % 256 := by
    have := Nat.two_pow_add_eq_or_of_lt (i := 8) (b := r % 256) (by have := Nat.mod_lt r (show 0 < 256 by decide); simpa using this) (r / 256)
    simp only [show (2 : Nat) ^ 8 = 256 from rfl] at this
    rw [Nat.or_comm]; exact this.symm
  rw [h1, h2]; omega

theorem byT_eq (r c : Nat) : byT r c = byB r c := by
  unfold byT byB
  have e : r ^^^ c = ((r % 256) ^^^ c) ^^^ (2 ^ 8 * (r / 256)) := by
    conv => lhs; rw [split256 r]
    rw [Nat.xor_assoc, Nat.xor_comm (256 * (r / 256)) c, ← Nat.xor_assoc]
  rw [e, stpN_xor, stpN_even]; rfl
theorem byT_lt {r c : Nat} (hr : r < 4294967296) (hc : c < 256) : byT r c < 4294967296 := by
  rw [byT_eq]; exact stpN_lt 8 (xor_lt32 hr (by omega))
theorem fold_lt : ∀ {bs : List Nat} {r : Nat}, r < 4294967296 → (∀ c ∈ bs, c < 256) → fold r bs < 4294967296 := by
  intro bs
  induction bs with
  | nil => intro r h _; exact h
  | cons c bs ih => intro r h hc; exact ih (byT_lt h (hc c (by simp))) (fun x hx => hc x (by simp [hx]))
theorem fold_append (r : Nat) (a b : List Nat) : fold r (a ++ b) = fold (fold r a) b := by simp [fold]
theorem fold_snoc (r : Nat) (a : List Nat) (c : Nat) : fold r (a ++ [c]) = byT (fold r a) c := by simp [fold]
theorem neg_lt (r : Nat) : neg r < 4294967296 := by unfold neg; omega
theorem neg_neg {r : Nat} (h : r < 4294967296) : neg (neg r) = r := by unfold neg; omega
theorem neg_inj {a b : Nat} (ha : a < 4294967296) (hb : b < 4294967296) (h : neg a = neg b) : a = b := by unfold neg at h; omega
theorem more_lt (s : Nat) (bs : List Nat) : more s bs < 4294967296 := neg_lt _

/-- P2.2 -/
theorem more_append (s : Nat) (a b : List Nat) (ha : ∀ c ∈ a, c < 256) : more s (a ++ b) = more (more s a) b := by
  unfold more
  rw [fold_append, neg_neg (fold_lt (neg_lt _) ha)]
theorem more_nil {s : Nat} (h : s < 4294967296) : more s [] = s := neg_neg h

theorem neg_xor {r : Nat} (h : r < 4294967296) : neg r = r ^^^ 4294967295 := by
  unfold neg
  have h1 : (2 ^ 32 - 1) - r = r ^^^ (2 ^ 32 - 1) := by
    apply Nat.eq_of_testBit_eq
    intro i
    rw [Nat.testBit_xor, Nat.testBit_two_pow_sub_one, Nat.sub_sub, Nat.add_comm 1 r, ]
    rw [Nat.testBit_two_pow_sub_succ (by simpa using h)]
    by_cases hi : i < 32
    · simp [hi]
    · have : r.testBit i = false := Nat.testBit_lt_two_pow (Nat.lt_of_lt_of_le h (Nat.pow_le_pow_right (n := 2) (by decide) (show 32 ≤ i by omega)))
      simp [hi, this]
  simpa using h1

/-- Xor of three rows, place by place. -/
def xor3 : List Nat → List Nat → List Nat → List Nat
  | a :: aL, b :: bs, c :: cs => (a ^^^ b ^^^ c) :: xor3 aL bs cs
  | _, _, _ => []
theorem byB_xor (r s c d : Nat) : byB (r ^^^ s) (c ^^^ d) = byB r c ^^^ byB s d := by
  unfold byB; rw [xor4, stpN_xor]
theorem fold_xor3 : ∀ (aL bs cs : List Nat) (x y z : Nat), aL.length = bs.length → aL.length = cs.length →
    fold (x ^^^ y ^^^ z) (xor3 aL bs cs) = fold x aL ^^^ fold y bs ^^^ fold z cs := by
  intro aL
  induction aL with
  | nil =>
    intro bs cs x y z h1 h2
    have : bs = [] := List.eq_nil_of_length_eq_zero (by simpa using h1.symm)
    have : cs = [] := List.eq_nil_of_length_eq_zero (by simpa using h2.symm)
    subst bs cs; rfl
  | cons a aL ih =>
    intro bs cs x y z h1 h2
    match bs, cs, h1, h2 with
    | b :: bs, c :: cs, h1, h2 =>
      simp only [xor3, fold, List.foldl_cons] at *
      rw [byT_eq, byT_eq x, byT_eq y, byT_eq z, byB_xor, byB_xor]
      exact ih bs cs _ _ _ (by simpa using h1) (by simpa using h2)
theorem xor3_length : ∀ (aL bs cs : List Nat), aL.length = bs.length → aL.length = cs.length → (xor3 aL bs cs).length = aL.length := by
  intro aL
  induction aL with
  | nil => intro bs cs _ _; simp [xor3]
  | cons a aL ih =>
    intro bs cs h1 h2
    match bs, cs, h1, h2 with
    | b :: bs, c :: cs, h1, h2 => simp only [xor3, List.length_cons]; rw [ih bs cs (by simpa using h1) (by simpa using h2)]
theorem xor3_get : ∀ (aL bs cs : List Nat) (k : Nat), k < aL.length → aL.length = bs.length → aL.length = cs.length → (xor3 aL bs cs).getD k 0 = aL.getD k 0 ^^^ bs.getD k 0 ^^^ cs.getD k 0 := by
  intro aL
  induction aL with
  | nil => intro bs cs k hk; simp at hk
  | cons a aL ih =>
    intro bs cs k hk h1 h2
    match bs, cs, h1, h2 with
    | b :: bs, c :: cs, h1, h2 =>
      cases k with
      | zero => simp [xor3]
      | succ k => simpa [xor3] using ih bs cs k (by simpa using hk) (by simpa using h1) (by simpa using h2)
/-- What was filled place by place is the row. -/
theorem xor3_of (us xs ys zs : List Nat) (n : Nat) (hu : us.length = n) (hx : n ≤ xs.length) (hy : n ≤ ys.length) (hz : n ≤ zs.length)
    (h : ∀ j, j < n → us.getD j 0 = xs.getD j 0 ^^^ ys.getD j 0 ^^^ zs.getD j 0) : us = xor3 (xs.take n) (ys.take n) (zs.take n) := by
  have l1 : (xs.take n).length = n := by rw [List.length_take]; omega
  have l2 : (ys.take n).length = n := by rw [List.length_take]; omega
  have l3 : (zs.take n).length = n := by rw [List.length_take]; omega
  have lx := xor3_length (xs.take n) (ys.take n) (zs.take n) (by omega) (by omega)
  apply List.ext_getElem (by omega)
  intro j h1 h2
  have e1 := h j (by omega)
  have e2 := xor3_get (xs.take n) (ys.take n) (zs.take n) j (by omega) (by omega) (by omega)
  have tk : ∀ l : List Nat, (l.take n).getD j 0 = l.getD j 0 := by
    intro l
    rw [List.getD_eq_getElem?_getD, List.getD_eq_getElem?_getD, List.getElem?_take_of_lt (by omega)]
  rw [tk, tk, tk, ← e1] at e2
  rw [List.getD_eq_getElem?_getD, List.getD_eq_getElem?_getD, List.getElem?_eq_getElem h2, List.getElem?_eq_getElem h1] at e2
  exact e2.symm
/-- P2.4 -/
theorem more_xor3 (aL bs cs : List Nat) (h1 : aL.length = bs.length) (h2 : aL.length = cs.length)
    (ha : ∀ c ∈ aL, c < 256) (hb : ∀ c ∈ bs, c < 256) (hc : ∀ c ∈ cs, c < 256) :
    more 0 (xor3 aL bs cs) = more 0 aL ^^^ more 0 bs ^^^ more 0 cs := by
  have e := fold_xor3 aL bs cs 4294967295 4294967295 4294967295 h1 h2
  simp only [show 4294967295 ^^^ 4294967295 ^^^ 4294967295 = 4294967295 from rfl] at e
  have fa := fold_lt (r := 4294967295) (by decide) ha
  have fb := fold_lt (r := 4294967295) (by decide) hb
  have fc := fold_lt (r := 4294967295) (by decide) hc
  unfold more
  simp only [show neg 0 = 4294967295 from rfl]
  rw [e, neg_xor (xor_lt32 (xor_lt32 fa fb) fc), neg_xor fa, neg_xor fb, neg_xor fc]
  generalize fold 4294967295 aL = A
  generalize fold 4294967295 bs = B
  generalize fold 4294967295 cs = C
  rw [xor4 A, Nat.xor_self, Nat.xor_zero, Nat.xor_assoc (A ^^^ B) C]

/-- P2.1: its own sum behind it. -/
theorem e8 (x c : Nat) : stpN 8 x ^^^ c = stpN 8 (x ^^^ 256 * c) := by
  have h := stpN_even 8 c
  simp only [show (2 : Nat) ^ 8 = 256 from rfl] at h
  rw [stpN_xor, h]
theorem mul_xor (x y : Nat) : 256 * (x ^^^ y) = 256 * x ^^^ 256 * y := by
  have h := Nat.shiftLeft_xor_distrib (a := x) (b := y) (i := 8)
  simp only [Nat.shiftLeft_eq, show (2 : Nat) ^ 8 = 256 from rfl] at h
  rw [Nat.mul_comm 256, h, Nat.mul_comm x, Nat.mul_comm y]
theorem four (R b0 b1 b2 b3 : Nat) : byT (byT (byT (byT R b0) b1) b2) b3 = stpN 32 (R ^^^ (b0 ^^^ 256 * (b1 ^^^ 256 * (b2 ^^^ 256 * b3)))) := by
  rw [byT_eq, byT_eq, byT_eq, byT_eq]
  unfold byB
  rw [show (32 : Nat) = 8 + 24 from rfl, stpN_add 8 24, ← Nat.xor_assoc, ← e8, show (24 : Nat) = 8 + 16 from rfl, stpN_add 8 16, ← Nat.xor_assoc, ← e8,
    show (16 : Nat) = 8 + 8 from rfl, stpN_add 8 8, ← Nat.xor_assoc, ← e8]
/-- The bytes of a number of 32 bits, the lowest first. -/
def le32 (s : Nat) : List Nat := [s % 256, s / 256 % 256, s / 65536 % 256, s / 16777216 % 256]
theorem le32_join {s : Nat} (h : s < 4294967296) : s % 256 ^^^ 256 * (s / 256 % 256 ^^^ 256 * (s / 65536 % 256 ^^^ 256 * (s / 16777216 % 256))) = s := by
  have h3 : s / 16777216 % 256 = s / 16777216 := by omega
  rw [h3]
  have e2 := split256 (s / 65536)
  rw [Nat.div_div_eq_div_mul] at e2
  rw [← e2]
  have e1 := split256 (s / 256)
  rw [Nat.div_div_eq_div_mul] at e1
  rw [← e1]
  exact (split256 s).symm
theorem more_zero (a : List Nat) (ha : ∀ c ∈ a, c < 256) : more 0 (a ++ le32 (more 0 a)) = 558161692 := by
  have hf := fold_lt (r := neg 0) (by decide) ha
  have e : fold (neg 0) (a ++ le32 (more 0 a)) = stpN 32 4294967295 := by
    rw [fold_append]
    show byT (byT (byT (byT _ _) _) _) _ = _
    rw [four, le32_join (more_lt _ _)]
    unfold more
    rw [neg_xor hf, ← Nat.xor_assoc, Nat.xor_self, Nat.zero_xor]
  show neg _ = _
  rw [e]
  decide +kernel

/-- P2.1: two sums that are alike go on alike, and others do not. -/
theorem stp_inj {a b : Nat} (ha : a < 4294967296) (hb : b < 4294967296) (h : stp a = stp b) : a = b := by
  have key : ∀ x, x < 4294967296 → (stp x).testBit 31 = decide (x % 2 = 1) := by
    intro x hx
    unfold stp
    rw [Nat.testBit_xor]
    have h0 : (x / 2).testBit 31 = false := Nat.testBit_lt_two_pow (by omega)
    rw [h0]
    by_cases hp : x % 2 = 1
    · simp [hp]; decide
    · simp [hp]
  have hk : a % 2 = b % 2 := by
    have h1 := key a ha
    have h2 := key b hb
    rw [h, h2] at h1
    rcases Nat.mod_two_eq_zero_or_one a with p | p <;> rcases Nat.mod_two_eq_zero_or_one b with q | q <;> simp_all
  have hd : a / 2 = b / 2 := by
    unfold stp at h
    rw [hk] at h
    have := congrArg (fun t => t ^^^ (if b % 2 = 1 then P else 0)) h
    simpa [Nat.xor_assoc] using this
  omega
theorem stpN_inj (n : Nat) : ∀ {a b : Nat}, a < 4294967296 → b < 4294967296 → stpN n a = stpN n b → a = b := by
  induction n with
  | zero => intro a b _ _ h; exact h
  | succ n ih => intro a b ha hb h; exact stp_inj ha hb (ih (stp_lt ha) (stp_lt hb) h)
theorem byT_inj {a b c : Nat} (ha : a < 4294967296) (hb : b < 4294967296) (hc : c < 256) (h : byT a c = byT b c) : a = b := by
  rw [byT_eq, byT_eq] at h
  have h1 := stpN_inj 8 (xor_lt32 ha (by omega)) (xor_lt32 hb (by omega)) h
  have := congrArg (fun t => t ^^^ c) h1
  simpa [Nat.xor_assoc] using this
theorem fold_inj : ∀ {bs : List Nat} {a b : Nat}, a < 4294967296 → b < 4294967296 → (∀ c ∈ bs, c < 256) → fold a bs = fold b bs → a = b := by
  intro bs
  induction bs with
  | nil => intro a b _ _ _ h; exact h
  | cons c bs ih =>
    intro a b ha hb hc h
    exact byT_inj ha hb (hc c (by simp)) (ih (byT_lt ha (hc c (by simp))) (byT_lt hb (hc c (by simp))) (fun x hx => hc x (by simp [hx])) h)
theorem more_inj {bs : List Nat} {s t : Nat} (hs : s < 4294967296) (ht : t < 4294967296) (hc : ∀ c ∈ bs, c < 256) : more s bs = more t bs ↔ s = t := by
  constructor
  · intro h
    unfold more at h
    have h1 := neg_inj (fold_lt (neg_lt _) hc) (fold_lt (neg_lt _) hc) h
    exact neg_inj hs ht (fold_inj (neg_lt _) (neg_lt _) hc h1)
  · rintro rfl; rfl

/-! The head's fixed answers. -/
theorem head1 : more 0 [49, 50, 51, 52, 53, 54, 55, 56, 57] = 3421780262 := by decide +kernel
theorem head2 : more 0 [0] = 3523407757 := by decide +kernel
theorem head3 : more (more 0 [49, 50, 51, 52, 53]) [54, 55, 56, 57] = 3421780262 := by decide +kernel

/-- The reference, bit by bit, as a fold. -/
def refFold (r : Nat) (bs : List Nat) : Nat := bs.foldl byB r
theorem refFold_eq (r : Nat) (bs : List Nat) : refFold r bs = fold r bs := by
  have : byB = byT := by funext a c; exact (byT_eq a c).symm
  unfold refFold fold; rw [this]
end Crc
end
section
namespace Frm
set_option linter.unusedSimpArgs false
set_option linter.unusedVariables false
open Crc

/-- The k lowest bytes of n, the greater parts first. -/
def be : Nat → Nat → List Nat
  | 0, _ => []
  | k + 1, n => n / 256 ^ k % 256 :: be k n
def val (bs : List Nat) : Nat := bs.foldl (fun v c => v * 256 + c) 0

theorem be_len (k n : Nat) : (be k n).length = k := by
  induction k with
  | zero => rfl
  | succ k ih => simp [be, ih]
theorem be_byte (k n : Nat) : ∀ c ∈ be k n, c < 256 := by
  induction k with
  | zero => intro c hc; cases hc
  | succ k ih =>
    intro c hc
    rcases List.mem_cons.1 hc with rfl | h
    · exact Nat.mod_lt _ (by decide)
    · exact ih c h
theorem val_from (bs : List Nat) : ∀ v, bs.foldl (fun v c => v * 256 + c) v = v * 256 ^ bs.length + val bs := by
  induction bs with
  | nil => intro v; simp [val]
  | cons c bs ih =>
    intro v
    unfold val
    simp only [List.foldl_cons, List.length_cons]
    rw [ih, ih (0 * 256 + c), Nat.pow_succ, Nat.zero_mul, Nat.zero_add, Nat.add_mul, Nat.add_assoc, Nat.mul_assoc, Nat.mul_comm 256]
theorem val_nil : val [] = 0 := rfl
theorem val_cons (c : Nat) (bs : List Nat) : val (c :: bs) = c * 256 ^ bs.length + val bs := by
  have := val_from bs c
  unfold val at *
  simpa using this
theorem val_snoc (bs : List Nat) (c : Nat) : val (bs ++ [c]) = val bs * 256 + c := by simp [val]
theorem val_lt : ∀ (bs : List Nat), (∀ c ∈ bs, c < 256) → val bs < 256 ^ bs.length := by
  intro bs
  induction bs with
  | nil => intro _; simp [val]
  | cons c bs ih =>
    intro h
    have h1 := ih (fun x hx => h x (by simp [hx]))
    have h2 := h c (by simp)
    rw [val_cons, List.length_cons, Nat.pow_succ]
    have h3 : c * 256 ^ bs.length ≤ 255 * 256 ^ bs.length := Nat.mul_le_mul_right _ (by omega)
    omega
theorem val_be_mod (k n : Nat) : val (be k n) = n % 256 ^ k := by
  induction k with
  | zero => simp [be, val, Nat.mod_one]
  | succ k ih =>
    show val (n / 256 ^ k % 256 :: be k n) = _
    rw [val_cons, be_len, ih, Nat.pow_succ, Nat.mod_mul, Nat.mul_comm (256 ^ k)]
    omega
theorem val_be {k n : Nat} (h : n < 256 ^ k) : val (be k n) = n := by rw [val_be_mod, Nat.mod_eq_of_lt h]
theorem be_add (k : Nat) : ∀ n c, be k (n + c * 256 ^ k) = be k n := by
  induction k with
  | zero => intro n c; rfl
  | succ k ih =>
    intro n c
    have e : c * 256 ^ (k + 1) = (c * 256) * 256 ^ k := by rw [Nat.pow_succ, Nat.mul_assoc, Nat.mul_comm 256]
    show (n + c * 256 ^ (k + 1)) / 256 ^ k % 256 :: be k (n + c * 256 ^ (k + 1)) = n / 256 ^ k % 256 :: be k n
    rw [e, ih, Nat.add_mul_div_right _ _ (Nat.pow_pos (by decide))]
    congr 1
    omega
theorem be_val : ∀ (bs : List Nat), (∀ c ∈ bs, c < 256) → be bs.length (val bs) = bs := by
  intro bs
  induction bs with
  | nil => intro _; rfl
  | cons c bs ih =>
    intro h
    have h1 : ∀ x ∈ bs, x < 256 := fun x hx => h x (by simp [hx])
    have h2 := h c (by simp)
    have h3 := val_lt bs h1
    show val (c :: bs) / 256 ^ bs.length % 256 :: be bs.length (val (c :: bs)) = _
    rw [val_cons, Nat.add_comm, be_add, ih h1, Nat.add_mul_div_right _ _ (Nat.pow_pos (by decide)), Nat.div_eq_of_lt h3]
    congr 1
    omega
theorem val_inj {a b : List Nat} (ha : ∀ c ∈ a, c < 256) (hb : ∀ c ∈ b, c < 256) (hl : a.length = b.length) (h : val a = val b) : a = b := by
  rw [← be_val a ha, ← be_val b hb, hl, h]

/-- A frame, as plain data. -/
structure Fr where
  ty : Int
  seq : Int
  body : List Nat
deriving DecidableEq
def Fr.zero : Fr := ⟨0, 0, []⟩
def Fr.right (f : Fr) : Prop := 1 ≤ f.ty ∧ f.ty ≤ 15 ∧ 0 ≤ f.seq ∧ f.seq ≤ 1073741824 ∧ f.body.length ≤ 1800
instance (f : Fr) : Decidable f.right := by unfold Fr.right; infer_instance
def hd (f : Fr) : List Nat := be 2 f.body.length ++ be 1 f.ty.toNat ++ be 4 f.seq.toNat
def sm (f : Fr) : List Nat := hd f ++ f.body
def raw (f : Fr) : List Nat := sm f ++ be 4 (more 0 (sm f))
def put (f : Fr) : List Nat := if f.right then raw f else []

theorem hd_len (f : Fr) : (hd f).length = 7 := by simp [hd, be_len]
theorem sm_len (f : Fr) : (sm f).length = f.body.length + 7 := by simp [sm, hd_len]; omega
theorem raw_len (f : Fr) : (raw f).length = f.body.length + 11 := by simp [raw, sm_len, be_len]
theorem hd_byte (f : Fr) : ∀ c ∈ hd f, c < 256 := by
  intro c hc
  rcases List.mem_append.1 hc with h | h
  · rcases List.mem_append.1 h with h | h
    · exact be_byte _ _ c h
    · exact be_byte _ _ c h
  · exact be_byte _ _ c h
theorem sm_byte (f : Fr) (hb : ∀ c ∈ f.body, c < 256) : ∀ c ∈ sm f, c < 256 := by
  intro c hc
  rcases List.mem_append.1 hc with h | h
  · exact hd_byte f c h
  · exact hb c h
theorem raw_byte (f : Fr) (hb : ∀ c ∈ f.body, c < 256) : ∀ c ∈ raw f, c < 256 := by
  intro c hc
  rcases List.mem_append.1 hc with h | h
  · exact sm_byte f hb c h
  · exact be_byte _ _ c h
theorem put_byte (f : Fr) (hb : ∀ c ∈ f.body, c < 256) : ∀ c ∈ put f, c < 256 := by
  unfold put; split
  · exact raw_byte f hb
  · intro c hc; cases hc
theorem put_len_le (f : Fr) : (put f).length ≤ 1811 := by
  unfold put; split
  · rename_i h; rw [raw_len]; have := h.2.2.2.2; omega
  · simp

/-- What bytes begin with. -/
def szOf (bs : List Nat) : Nat := val (bs.take 2)
def frOf (bs : List Nat) : Fr := ⟨((bs.getD 2 0 : Nat) : Int), ((val ((bs.take 7).drop 3) : Nat) : Int), (bs.take (szOf bs + 7)).drop 7⟩
def get (bs : List Nat) : Fr × Nat × Nat :=
  if bs.length < 2 then (Fr.zero, 0, 13)
  else if 1800 < szOf bs then (Fr.zero, 0, 12)
  else if bs.length < szOf bs + 11 then (Fr.zero, 0, 13)
  else if val ((bs.take (szOf bs + 11)).drop (szOf bs + 7)) ≠ more 0 (bs.take (szOf bs + 7)) then (Fr.zero, 0, 14)
  else if ¬ (frOf bs).right then (Fr.zero, 0, 12)
  else (frOf bs, szOf bs + 11, 0)

theorem get_err (bs : List Nat) (h : (get bs).2.2 ≠ 0) : get bs = (Fr.zero, 0, (get bs).2.2) := by
  unfold get at *
  split
  · rfl
  split
  · rfl
  split
  · rfl
  split
  · rfl
  split
  · rfl
  · simp_all
theorem get_errs (bs : List Nat) : (get bs).2.2 = 0 ∨ (get bs).2.2 = 12 ∨ (get bs).2.2 = 13 ∨ (get bs).2.2 = 14 := by
  unfold get
  split
  · simp
  split
  · simp
  split
  · simp
  split
  · simp
  split <;> simp

theorem take_two (f : Fr) (t : List Nat) : (raw f ++ t).take 2 = be 2 f.body.length := by
  simp only [raw, sm, hd, List.append_assoc]
  rw [List.take_append_of_le_length (by rw [be_len]; omega), List.take_of_length_le (by rw [be_len]; omega)]
theorem szOf_raw (f : Fr) (h : f.body.length ≤ 1800) (t : List Nat) : szOf (raw f ++ t) = f.body.length := by
  unfold szOf; rw [take_two, val_be (by omega)]
theorem take_sm (f : Fr) (t : List Nat) : (raw f ++ t).take (f.body.length + 7) = sm f := by
  rw [raw, List.append_assoc, List.take_append_of_le_length (by rw [sm_len]; omega), List.take_of_length_le (by rw [sm_len]; omega)]
theorem take_raw (f : Fr) (t : List Nat) : (raw f ++ t).take (f.body.length + 11) = raw f := by
  rw [List.take_append_of_le_length (by rw [raw_len]; omega), List.take_of_length_le (by rw [raw_len]; omega)]
theorem drop_sum (f : Fr) : (raw f).drop (f.body.length + 7) = be 4 (more 0 (sm f)) := by
  rw [raw, List.drop_append_of_le_length (by rw [sm_len]; omega), List.drop_of_length_le (by rw [sm_len]; omega)]; rfl
theorem body_of (f : Fr) : (sm f).drop 7 = f.body := by
  rw [sm, List.drop_append_of_le_length (by rw [hd_len]; omega), List.drop_of_length_le (by rw [hd_len]; omega)]; rfl
theorem seq_of (f : Fr) (t : List Nat) : ((raw f ++ t).take 7).drop 3 = be 4 f.seq.toNat := by
  have e : (raw f ++ t).take 7 = hd f := by
    rw [raw, sm, List.append_assoc, List.append_assoc, List.take_append_of_le_length (by rw [hd_len]; omega), List.take_of_length_le (by rw [hd_len]; omega)]
  rw [e, hd, List.drop_append_of_le_length (by simp [be_len]), List.drop_of_length_le (by simp [be_len])]; rfl
theorem ty_of (f : Fr) (t : List Nat) : (raw f ++ t).getD 2 0 = f.ty.toNat % 256 := by
  simp only [raw, sm, hd, be, List.append_assoc, List.cons_append, List.nil_append]
  simp
theorem frOf_raw (f : Fr) (h : f.right) (t : List Nat) : frOf (raw f ++ t) = f := by
  obtain ⟨h1, h2, h3, h4, h5⟩ := h
  unfold frOf
  rw [szOf_raw f h5, take_sm, body_of, seq_of, ty_of, val_be (by omega)]
  obtain ⟨ty, seq, body⟩ := f
  simp only at *
  congr <;> omega
/-- P3.2: there. -/
theorem get_raw (f : Fr) (h : f.right) (t : List Nat) : get (raw f ++ t) = (f, f.body.length + 11, 0) := by
  have h5 := h.2.2.2.2
  have hl : (raw f ++ t).length = f.body.length + 11 + t.length := by rw [List.length_append, raw_len]
  have hs := szOf_raw f h5 t
  unfold get
  rw [hs, frOf_raw f h, take_sm, take_raw, drop_sum, val_be (by have := more_lt 0 (sm f); omega)]
  rw [if_neg (by omega), if_neg (by omega), if_neg (by omega), if_neg (by simp), if_neg (by simpa using h)]
/-- P3.2: back. -/
theorem get_ok (bs : List Nat) (h : (get bs).2.2 = 0) :
    (frOf bs).right ∧ get bs = (frOf bs, szOf bs + 11, 0) ∧ szOf bs + 11 ≤ bs.length ∧ val ((bs.take (szOf bs + 11)).drop (szOf bs + 7)) = more 0 (bs.take (szOf bs + 7)) ∧ szOf bs ≤ 1800 := by
  unfold get at *
  split at h
  · simp at h
  split at h
  · simp at h
  split at h
  · simp at h
  split at h
  · simp at h
  split at h
  · simp at h
  · rename_i h1 h2 h3 h4 h5
    have h5' : (frOf bs).right := by simpa using h5
    have h4' : val ((bs.take (szOf bs + 11)).drop (szOf bs + 7)) = more 0 (bs.take (szOf bs + 7)) := by simpa using h4
    refine ⟨h5', ?_, by omega, h4', by omega⟩
    rw [if_neg h1, if_neg h2, if_neg h3, if_neg h4, if_neg h5]
theorem frOf_len (bs : List Nat) (h : szOf bs + 11 ≤ bs.length) : (frOf bs).body.length = szOf bs := by
  show ((bs.take (szOf bs + 7)).drop 7).length = _
  rw [List.length_drop, List.length_take]; omega
theorem split7 (bs : List Nat) (h : 7 ≤ bs.length) : bs.take 7 = bs.take 2 ++ ([bs.getD 2 0] ++ (bs.take 7).drop 3) := by
  match bs, h with
  | a :: b :: c :: d :: e :: f :: g :: t, _ => rfl
theorem raw_back (bs : List Nat) (hb : ∀ c ∈ bs, c < 256) (h : (get bs).2.2 = 0) : raw (frOf bs) = bs.take (szOf bs + 11) := by
  obtain ⟨hr, _, hl, hv, h18⟩ := get_ok bs h
  have bt : ∀ (n m : Nat), ∀ c ∈ (bs.take n).drop m, c < 256 := fun n m c hc => hb c (List.mem_of_mem_take (List.mem_of_mem_drop hc))
  have bt' : ∀ (n : Nat), ∀ c ∈ bs.take n, c < 256 := fun n c hc => hb c (List.mem_of_mem_take hc)
  have hhd : hd (frOf bs) = bs.take 7 := by
    unfold hd
    rw [frOf_len bs hl, split7 bs (by omega)]
    have e1 : be 2 (szOf bs) = bs.take 2 := by
      have := be_val (bs.take 2) (bt' 2)
      rw [List.length_take, Nat.min_eq_left (by omega)] at this
      exact this
    have e3 : be 4 (frOf bs).seq.toNat = (bs.take 7).drop 3 := by
      have := be_val ((bs.take 7).drop 3) (bt 7 3)
      rw [List.length_drop, List.length_take, Nat.min_eq_left (by omega)] at this
      exact this
    have hg : bs.getD 2 0 < 256 := by
      rw [List.getD_eq_getElem?_getD, List.getElem?_eq_getElem (by omega)]
      exact hb _ (List.getElem_mem _)
    have e2 : be 1 (frOf bs).ty.toNat = [bs.getD 2 0] := by
      show [(((bs.getD 2 0 : Nat) : Int).toNat) / 256 ^ 0 % 256] = _
      rw [Int.toNat_natCast, Nat.pow_zero, Nat.div_one, Nat.mod_eq_of_lt hg]
    rw [e1, e2, e3, List.append_assoc]
  have hsm : sm (frOf bs) = bs.take (szOf bs + 7) := by
    unfold sm
    rw [hhd]
    have := List.take_append_drop 7 (bs.take (szOf bs + 7))
    rw [List.take_take, Nat.min_eq_left (by omega)] at this
    exact this
  unfold raw
  rw [hsm, ← hv]
  have e4 : be 4 (val ((bs.take (szOf bs + 11)).drop (szOf bs + 7))) = (bs.take (szOf bs + 11)).drop (szOf bs + 7) := by
    have := be_val ((bs.take (szOf bs + 11)).drop (szOf bs + 7)) (bt _ _)
    have hl4 : ((bs.take (szOf bs + 11)).drop (szOf bs + 7)).length = 4 := by
      rw [List.length_drop, List.length_take, Nat.min_eq_left (by omega)]; omega
    rw [hl4] at this
    exact this
  rw [e4]
  have := List.take_append_drop (szOf bs + 7) (bs.take (szOf bs + 11))
  rw [List.take_take, Nat.min_eq_left (by omega)] at this
  exact this
/-- P3.3: cut bytes of a frame are none. -/
theorem get_cut (f : Fr) (h : f.body.length ≤ 1800) (k : Nat) (hk : k < f.body.length + 11) : (get ((raw f).take k)).2.2 ≠ 0 := by
  intro h0
  obtain ⟨_, _, hl, _, _⟩ := get_ok _ h0
  rw [List.length_take, raw_len] at hl
  have e : szOf ((raw f).take k) = f.body.length := by
    unfold szOf
    rw [List.take_take, Nat.min_eq_left (by omega)]
    have := szOf_raw f h []
    rw [List.append_nil] at this
    exact this
  omega

/-- What bytes scan to. -/
def scanN : Nat → List Nat → Int → List Fr × Nat
  | 0, _, _ => ([], 0)
  | k + 1, bs, first => if (get bs).2.2 = 0 ∧ (get bs).1.seq = first then
      ((get bs).1 :: (scanN k (bs.drop (get bs).2.1) (first + 1)).1, (get bs).2.1 + (scanN k (bs.drop (get bs).2.1) (first + 1)).2) else ([], 0)
def scan (bs : List Nat) (first : Int) : List Fr × Nat := scanN (bs.length + 1) bs first
theorem scanN_same : ∀ (k j : Nat) (bs : List Nat) (first : Int), bs.length < k → bs.length < j → scanN k bs first = scanN j bs first := by
  intro k
  induction k with
  | zero => intro j bs first h; omega
  | succ k ih =>
    intro j bs first hk hj
    match j, hj with
    | j + 1, hj =>
      simp only [scanN]
      by_cases h : (get bs).2.2 = 0 ∧ (get bs).1.seq = first
      · obtain ⟨_, hg, hl, _, _⟩ := get_ok bs h.1
        have hn : (get bs).2.1 = szOf bs + 11 := by rw [hg]
        have e := ih j (bs.drop (get bs).2.1) (first + 1) (by rw [List.length_drop]; omega) (by rw [List.length_drop]; omega)
        rw [e]
      · rw [if_neg h, if_neg h]
theorem scan_step (bs : List Nat) (first : Int) (h0 : (get bs).2.2 = 0) (h1 : (get bs).1.seq = first) :
    scan bs first = ((get bs).1 :: (scan (bs.drop (get bs).2.1) (first + 1)).1, (get bs).2.1 + (scan (bs.drop (get bs).2.1) (first + 1)).2) := by
  obtain ⟨_, hg, hl, _, _⟩ := get_ok bs h0
  have hn : (get bs).2.1 = szOf bs + 11 := by rw [hg]
  show scanN (bs.length + 1) bs first = _
  simp only [scanN]
  rw [if_pos ⟨h0, h1⟩]
  have e : scanN bs.length (bs.drop (get bs).2.1) (first + 1) = scan (bs.drop (get bs).2.1) (first + 1) :=
    scanN_same _ _ _ _ (by rw [List.length_drop]; omega) (by omega)
  rw [e]
theorem scan_stop (bs : List Nat) (first : Int) (h : ¬ ((get bs).2.2 = 0 ∧ (get bs).1.seq = first)) : scan bs first = ([], 0) := by
  show scanN (bs.length + 1) bs first = _
  simp only [scanN]
  rw [if_neg h]
theorem scan_raw (f : Fr) (h : f.right) (t : List Nat) (first : Int) (hs : f.seq = first) : scan (raw f ++ t) first = (f :: (scan t (first + 1)).1, f.body.length + 11 + (scan t (first + 1)).2) := by
  have hg := get_raw f h t
  have e := scan_step (raw f ++ t) first (by rw [hg]) (by rw [hg]; exact hs)
  rw [hg] at e
  simp only at e
  rw [List.drop_append_of_le_length (by rw [raw_len]; omega), List.drop_of_length_le (by rw [raw_len]; omega), List.nil_append] at e
  exact e
theorem scan_nil (first : Int) : scan [] first = ([], 0) := rfl
theorem scan_le : ∀ (k : Nat) (bs : List Nat) (first : Int), bs.length < k → (scan bs first).2 ≤ bs.length := by
  intro k
  induction k with
  | zero => intro bs first h; omega
  | succ k ih =>
    intro bs first hk
    by_cases h : (get bs).2.2 = 0 ∧ (get bs).1.seq = first
    · obtain ⟨_, hg, hl, _, _⟩ := get_ok bs h.1
      have hn : (get bs).2.1 = szOf bs + 11 := by rw [hg]
      rw [scan_step bs first h.1 h.2]
      have e := ih (bs.drop (get bs).2.1) (first + 1) (by rw [List.length_drop]; omega)
      rw [List.length_drop] at e
      simp only
      omega
    · rw [scan_stop bs first h]; simp

/-- One byte turned turns the sum. -/
theorem byT_ne {r c d : Nat} (hr : r < 4294967296) (hc : c < 256) (hd : d < 256) (h : byT r c = byT r d) : c = d := by
  rw [byT_eq, byT_eq] at h
  have h1 := stpN_inj 8 (xor_lt32 hr (by omega)) (xor_lt32 hr (by omega)) h
  have := congrArg (fun t => r ^^^ t) h1
  simpa [← Nat.xor_assoc] using this
theorem more_set (xs : List Nat) (k c : Nat) (hk : k < xs.length) (hx : ∀ c ∈ xs, c < 256) (hc : c < 256) (h : more 0 (xs.set k c) = more 0 xs) : c = xs.getD k 0 := by
  have hb : ∀ x ∈ xs.set k c, x < 256 := fun x hm => by
    rcases List.mem_or_eq_of_mem_set hm with h | h
    · exact hx x h
    · omega
  unfold more at h
  have h1 := neg_inj (fold_lt (neg_lt _) hb) (fold_lt (neg_lt _) hx) h
  have e1 : xs.set k c = xs.take k ++ c :: xs.drop (k + 1) := List.set_eq_take_append_cons_drop.trans (by rw [if_pos hk])
  have e2 : xs = xs.take k ++ xs.getD k 0 :: xs.drop (k + 1) := by
    rw [List.getD_eq_getElem?_getD, List.getElem?_eq_getElem hk]
    simp
  rw [e1] at h1
  conv at h1 => rhs; rw [e2]
  rw [fold_append, fold_append] at h1
  have hl := fold_lt (r := neg 0) (bs := xs.take k) (neg_lt _) (fun x hm => hx x (List.mem_of_mem_take hm))
  have hg : xs.getD k 0 < 256 := by
    rw [List.getD_eq_getElem?_getD, List.getElem?_eq_getElem hk]
    exact hx _ (List.getElem_mem _)
  have hdr : ∀ x ∈ xs.drop (k + 1), x < 256 := fun x hm => hx x (List.mem_of_mem_drop hm)
  have h2 : fold (byT (fold (neg 0) (xs.take k)) c) (xs.drop (k + 1)) = fold (byT (fold (neg 0) (xs.take k)) (xs.getD k 0)) (xs.drop (k + 1)) := h1
  exact byT_ne hl hc hg (fold_inj (byT_lt hl hc) (byT_lt hl hg) hdr h2)
/-- P3.3: what is turned in one byte, but for its size, is not got. -/
theorem get_spoilt (f : Fr) (h : f.right) (hb : ∀ c ∈ f.body, c < 256) (k c : Nat) (h2 : 2 ≤ k) (hk : k < f.body.length + 11) (hc : c < 256) (hne : c ≠ (raw f).getD k 0) : get ((raw f).set k c) = (Fr.zero, 0, 14) := by
  have h18 := h.2.2.2.2
  have hsz : szOf ((raw f).set k c) = f.body.length := by
    unfold szOf
    rw [List.take_set_of_le (by omega)]
    have := szOf_raw f h18 []
    rw [List.append_nil] at this
    exact this
  have hlen : ((raw f).set k c).length = f.body.length + 11 := by rw [List.length_set, raw_len]
  have hsum : val (((raw f).set k c).drop (f.body.length + 7)) ≠ more 0 (((raw f).set k c).take (f.body.length + 7)) := by
    have t1 := take_sm f []
    rw [List.append_nil] at t1
    have t2 := drop_sum f
    have hml := more_lt 0 (sm f)
    by_cases hlt : k < f.body.length + 7
    · rw [List.drop_set_of_lt (by omega), t2, val_be (by omega)]
      intro he
      have e : ((raw f).set k c).take (f.body.length + 7) = (sm f).set k c := by
        rw [List.take_set, t1]
      rw [e] at he
      have hg : (sm f).getD k 0 = (raw f).getD k 0 := by
        rw [← t1, List.getD_eq_getElem?_getD, List.getD_eq_getElem?_getD, List.getElem?_take_of_lt hlt]
      have := more_set (sm f) k c (by rw [sm_len]; omega) (sm_byte f hb) hc he.symm
      rw [hg] at this
      exact hne this
    · rw [List.take_set_of_le (by omega), t1]
      intro he
      have hbd : ∀ x ∈ ((raw f).set k c).drop (f.body.length + 7), x < 256 := by
        intro x hx
        rcases List.mem_or_eq_of_mem_set (List.mem_of_mem_drop hx) with h | h
        · exact raw_byte f hb x h
        · omega
      have e1 : ((raw f).set k c).drop (f.body.length + 7) = be 4 (more 0 (sm f)) := by
        apply val_inj hbd (be_byte _ _)
        · rw [List.length_drop, hlen, be_len]; omega
        · rw [he, val_be (by omega)]
      rw [← t2] at e1
      have e2 := congrArg (fun l => l.getD (k - (f.body.length + 7)) 0) e1
      simp only [List.getD_eq_getElem?_getD, List.getElem?_drop] at e2
      rw [show f.body.length + 7 + (k - (f.body.length + 7)) = k from by omega, List.getElem?_set_self (by rw [raw_len]; omega)] at e2
      apply hne
      rw [List.getD_eq_getElem?_getD]
      exact e2
  unfold get
  rw [hsz, if_neg (by omega), if_neg (by omega), if_neg (by omega)]
  have e3 : ((raw f).set k c).take (f.body.length + 11) = (raw f).set k c := List.take_of_length_le (by omega)
  rw [e3, if_pos hsum]
/-- P3.1: unlike frames have unlike bytes, neither the beginning of the other one's. -/
theorem raw_prefix (a b : Fr) (ha : a.right) (hb : b.right) (n : Nat) (hn : n = min (a.body.length + 11) (b.body.length + 11)) : (raw a).take n = (raw b).take n ↔ a = b := by
  constructor
  · intro h
    have e2 := congrArg (List.take 2) h
    rw [List.take_take, List.take_take, Nat.min_eq_left (by omega)] at e2
    have s1 := szOf_raw a ha.2.2.2.2 []
    have s2 := szOf_raw b hb.2.2.2.2 []
    rw [List.append_nil] at s1 s2
    unfold szOf at s1 s2
    rw [e2, s2] at s1
    rw [List.take_of_length_le (by rw [raw_len]; omega), List.take_of_length_le (by rw [raw_len]; omega)] at h
    have g1 := get_raw a ha []
    have g2 := get_raw b hb []
    rw [List.append_nil] at g1 g2
    rw [h, g2] at g1
    exact (congrArg (·.1) g1).symm
  · rintro rfl; rfl
end Frm
end
end Go.Proofs.YtechgmohdabkpaaGreatDoor
