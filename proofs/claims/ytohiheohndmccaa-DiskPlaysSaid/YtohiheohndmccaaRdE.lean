/- The reference's disk: mathematics of put, of without, of one file that is turned. -/
import Derived.Test.YtohiheohndmccaaRdD
namespace Go.Proofs.Ytohiheohndmccaa
open Go.RowKit
open Go.Maps
attribute [local go_sem] Oper.semAt_some

theorem bytesLess_before : ∀ x y : List UInt8, Op.bytesLess x y = bytesBefore x y
  | [], [] => rfl
  | [], _ :: _ => rfl
  | _ :: _, [] => rfl
  | a :: x, b :: y => by
    unfold Op.bytesLess bytesBefore
    rw [bytesLess_before x y]
theorem toList_mk (l : List UInt8) : (⟨l.toArray⟩ : ByteArray).toList = l := by
  have : (⟨l.toArray⟩ : ByteArray).toList = (⟨l.toArray⟩ : ByteArray).data.toList := by simp
  rw [this]
theorem before_asymm : ∀ {x y : List UInt8}, bytesBefore x y = true → bytesBefore y x = false
  | [], [], h => by cases h
  | [], _ :: _, _ => rfl
  | _ :: _, [], h => by cases h
  | a :: x, b :: y, h => by
    simp only [bytesBefore, Bool.or_eq_true, Bool.and_eq_true, decide_eq_true_eq, beq_iff_eq] at h
    simp only [bytesBefore, Bool.or_eq_false_iff, Bool.and_eq_false_iff, decide_eq_false_iff_not, beq_eq_false_iff_ne]
    rcases h with h | ⟨rfl, h⟩
    · have h1 := UInt8.lt_iff_toNat_lt.1 h
      refine ⟨fun h2 => ?_, .inl (fun h2 => ?_)⟩
      · have := UInt8.lt_iff_toNat_lt.1 h2; omega
      · subst h2; omega
    · refine ⟨fun h2 => ?_, .inr (before_asymm h)⟩
      have := UInt8.lt_iff_toNat_lt.1 h2; omega
/-- Where a file of that name goes. -/
def rput : List REnt → List UInt8 → Nat
  | [], _ => 0
  | e :: es, s => if bytesBefore e.s s = true then rput es s + 1 else 0
theorem rput_le : ∀ (es : List REnt) (s : List UInt8), rput es s ≤ es.length
  | [], _ => Nat.le_refl _
  | e :: es, s => by
    unfold rput
    split
    · have := rput_le es s
      simp only [List.length_cons]
      omega
    · exact Nat.zero_le _
theorem rput_skip : ∀ (es : List REnt) (s : List UInt8) (k : Nat), (∀ j e, j < k → es[j]? = some e → bytesBefore e.s s = true) → k ≤ es.length → k ≤ rput es s
  | _, _, 0, _, _ => Nat.zero_le _
  | [], _, k + 1, _, h => by simp at h
  | e :: es, s, k + 1, hj, h => by
    unfold rput
    rw [if_pos (hj 0 e (by omega) rfl)]
    have := rput_skip es s k (fun j x hjk hx => hj (j + 1) x (by omega) hx) (by simpa using h)
    omega
theorem rput_hit : ∀ (es : List REnt) (s : List UInt8) (k : Nat) (e : REnt), (∀ j e, j < k → es[j]? = some e → bytesBefore e.s s = true) → es[k]? = some e → bytesBefore e.s s = false → rput es s = k
  | [], _, k, _, _, h, _ => by simp at h
  | x :: es, s, 0, e, _, h, he => by
    have : x = e := by simpa using h
    subst this
    unfold rput
    rw [if_neg (by rw [he]; decide)]
  | x :: es, s, k + 1, e, hj, h, he => by
    unfold rput
    rw [if_pos (hj 0 x (by omega) rfl), rput_hit es s k e (fun j y hjk hy => hj (j + 1) y (by omega) hy) (by simpa using h) he]
theorem insert_rput : ∀ (es : List REnt) (f : REnt), (∀ e ∈ es, e.s ≠ f.s) → DataW.insert f.ent (es.map REnt.ent) = (es.take (rput es f.s) ++ f :: es.drop (rput es f.s)).map REnt.ent
  | [], f, _ => rfl
  | e :: es, f, hne => by
    have h1 := hne e (by simp)
    by_cases hb : bytesBefore e.s f.s = true
    · have e1 : rput (e :: es) f.s = rput es f.s + 1 := by rw [rput, if_pos hb]
      rw [e1]
      show DataW.insert f.ent (e.ent :: es.map REnt.ent) = _
      unfold DataW.insert
      rw [if_neg (by show ¬ bytesBefore f.s e.s = true; rw [before_asymm hb]; decide), insert_rput es f (fun x hx => hne x (by simp [hx]))]
      rfl
    · have e1 : rput (e :: es) f.s = 0 := by rw [rput, if_neg hb]
      have hb2 : bytesBefore f.s e.s = true := (before_total h1).resolve_left hb
      rw [e1]
      show DataW.insert f.ent (e.ent :: es.map REnt.ent) = _
      unfold DataW.insert
      rw [if_pos (by show bytesBefore f.s e.s = true; exact hb2)]
      rfl
theorem filter_all (es : List REnt) (s : List UInt8) (h : ∀ e ∈ es, e.s ≠ s) : (es.map REnt.ent).filter (fun p => !p.1.sameKey (.string s)) = es.map REnt.ent := by
  rw [List.filter_eq_self]
  intro p hp
  obtain ⟨e, he, rfl⟩ := List.mem_map.1 hp
  have : (Lit.string e.s).sameKey (.string s) = false := sameKey_ne (fun h' => h e he (by injection h'))
  show (!(Lit.string e.s).sameKey (.string s)) = true
  rw [this]
  rfl
/-- A file of a name that isn't there is laid. -/
theorem rD_put (es : List REnt) (f : REnt) (h : ∀ e ∈ es, e.s ≠ f.s) : rD (es.take (rput es f.s) ++ f :: es.drop (rput es f.s)) = (rD es).put (.string f.s) (.held f.fl) := by
  show _ = DataW.map (DataW.insert f.ent ((es.map REnt.ent).filter fun p => !p.1.sameKey (.string f.s)))
  rw [filter_all es f.s h, insert_rput es f h]
  rfl
/-- Names stand once. -/
theorem RdC.once {w : World} {rp : Nat} {t : St} {O : Nat → Prop} {a : Option Addr} {c : Nat} {es : List REnt} (h : RdC w rp t O a c es) : es.Pairwise fun x y => bytesBefore x.s y.s = true := by
  have hc := h.good.canon
  rw [h.D_] at hc
  obtain ⟨l, hl, h1, _⟩ := hc
  injection hl with hl
  subst hl
  exact (List.pairwise_map.1 h1).imp (fun hxy => hxy)
theorem before_ne {x y : List UInt8} (h : bytesBefore x y = true) : x ≠ y := by
  rintro rfl
  have := before_asymm h
  rw [h] at this
  cases this
/-- The files but for one. -/
theorem rD_del : ∀ (es : List REnt) (s : List UInt8), es.Pairwise (fun x y => bytesBefore x.s y.s = true) → ridx es s < es.length → rD (es.take (ridx es s) ++ es.drop (ridx es s + 1)) = (rD es).del (.string s)
  | [], s, _, h => by simp [ridx] at h
  | e :: es, s, hp, h => by
    obtain ⟨h1, h2⟩ := List.pairwise_cons.1 hp
    by_cases he : e.s = s
    · have e1 : ridx (e :: es) s = 0 := by rw [ridx, if_pos he]
      rw [e1]
      have hk : (Lit.string e.s).sameKey (.string s) = true := by rw [he]; exact WideAt.sameKey_self (isKey_str s)
      show rD es = .map ((e.ent :: es.map REnt.ent).filter fun p => !p.1.sameKey (.string s))
      rw [List.filter_cons_of_neg (by show ¬ (!(Lit.string e.s).sameKey (.string s)) = true; rw [hk]; decide), filter_all es s (fun x hx hxs => before_ne (h1 x hx) (by rw [hxs, he]))]
      rfl
    · have e1 : ridx (e :: es) s = ridx es s + 1 := by rw [ridx, if_neg he]
      rw [e1] at h ⊢
      have hk : (Lit.string e.s).sameKey (.string s) = false := sameKey_ne (fun h' => he (by injection h'))
      have ih := rD_del es s h2 (by simpa using h)
      show rD (e :: (es.take (ridx es s) ++ es.drop (ridx es s + 1))) = .map ((e.ent :: es.map REnt.ent).filter fun p => !p.1.sameKey (.string s))
      rw [List.filter_cons_of_pos (by show (!(Lit.string e.s).sameKey (.string s)) = true; rw [hk]; rfl)]
      injection ih with ih
      show DataW.map (e.ent :: _) = _
      rw [← ih]
theorem put_eq (D : FS) (k : Lit) (d : DataW Fl) : D.put k d = (D.del k).put k d := by
  cases D <;> try rfl
  rename_i es
  show DataW.map (DataW.insert (k, d) (es.filter fun p => !p.1.sameKey k)) = DataW.map (DataW.insert (k, d) ((es.filter fun p => !p.1.sameKey k).filter fun p => !p.1.sameKey k))
  rw [List.filter_filter]
  simp
theorem rput_at : ∀ (es : List REnt) (s : List UInt8), es.Pairwise (fun x y => bytesBefore x.s y.s = true) → ridx es s < es.length → rput (es.take (ridx es s) ++ es.drop (ridx es s + 1)) s = ridx es s
  | [], s, _, h => by simp [ridx] at h
  | e :: es, s, hp, h => by
    obtain ⟨h1, h2⟩ := List.pairwise_cons.1 hp
    by_cases he : e.s = s
    · have e1 : ridx (e :: es) s = 0 := by rw [ridx, if_pos he]
      rw [e1]
      show rput es s = 0
      cases es with
      | nil => rfl
      | cons x es =>
        have hx := h1 x (by simp)
        rw [he] at hx
        rw [rput, if_neg (by rw [before_asymm hx]; decide)]
    · have e1 : ridx (e :: es) s = ridx es s + 1 := by rw [ridx, if_neg he]
      rw [e1] at h ⊢
      have hlt : ridx es s < es.length := by simpa using h
      have ih := rput_at es s h2 hlt
      show rput (e :: (es.take (ridx es s) ++ es.drop (ridx es s + 1))) s = _
      have hx : bytesBefore e.s s = true := by
        have := h1 es[ridx es s] (List.getElem_mem _)
        have hs : es[ridx es s].s = s := by
          clear ih e1 he h h1 h2 hp this
          induction es with
          | nil => simp at hlt
          | cons y es ih =>
            by_cases hy : y.s = s
            · have : ridx (y :: es) s = 0 := by rw [ridx, if_pos hy]
              simp only [this, List.getElem_cons_zero]
              exact hy
            · have e2 : ridx (y :: es) s = ridx es s + 1 := by rw [ridx, if_neg hy]
              simp only [e2, List.getElem_cons_succ]
              exact ih (by rw [e2] at hlt; simpa using hlt)
        rw [hs] at this
        exact this
      rw [rput, if_pos hx, ih]
/-- One file is turned, in its place. -/
theorem rD_set {es : List REnt} (s : List UInt8) (hp : es.Pairwise fun x y => bytesBefore x.s y.s = true) (h : ridx es s < es.length) (f : REnt) (hf : f.s = s) : rD (es.set (ridx es s) f) = (rD es).put (.string s) (.held f.fl) := by
  have hd := rD_del es s hp h
  have hne : ∀ e ∈ es.take (ridx es s) ++ es.drop (ridx es s + 1), e.s ≠ f.s := by
    intro e he hs
    have h1 : fat ((rD es).del (.string s)) s = none := fat_del_same s
    rw [← hd, ridx_fat] at h1
    have h2 := ridx_le (es.take (ridx es s) ++ es.drop (ridx es s + 1)) s
    obtain ⟨j, hj⟩ := List.getElem?_of_mem he
    have h3 : ridx (es.take (ridx es s) ++ es.drop (ridx es s + 1)) s < (es.take (ridx es s) ++ es.drop (ridx es s + 1)).length := by
      refine Nat.lt_of_not_le fun hle => ?_
      have hjl := (List.getElem?_eq_some_iff.1 hj).1
      have hmem : ∀ (l : List REnt) (j : Nat) (e : REnt), l[j]? = some e → e.s = s → ridx l s ≤ j := by
        intro l
        induction l with
        | nil => intro j e hj; simp at hj
        | cons y l ih =>
          intro j e hj hs
          unfold ridx
          split
          · exact Nat.zero_le _
          · rename_i hy
            cases j with
            | zero =>
              have : y = e := by simpa using hj
              subst this
              exact absurd hs hy
            | succ j =>
              have := ih j e (by simpa using hj) hs
              omega
      have := hmem _ j e hj (hs.trans hf)
      omega
    rw [List.getElem?_eq_getElem h3] at h1
    cases h1
  have e1 := rD_put _ f hne
  rw [hf, rput_at es s hp h, hd, ← put_eq] at e1
  rw [← e1]
  congr 1
  have hl : (es.take (ridx es s)).length = ridx es s := by rw [List.length_take]; omega
  rw [List.take_append_of_le_length (by omega), List.take_of_length_le (by omega), List.drop_append_of_le_length (by omega), List.drop_of_length_le (by omega), List.nil_append, List.set_eq_take_append_cons_drop, if_pos h]
end Go.Proofs.Ytohiheohndmccaa
